"""What several tests hand in: things of any kind, and short ways to write POLYNOMIALS."""

from rankedchains.polytext import read_poly


class Odd:
    """A thing that can't be compared, counted, iterated, hashed or asked for its truth."""

    def __eq__(self, other):
        raise RuntimeError("compared")

    def __lt__(self, other):
        raise RuntimeError("compared")

    __gt__ = __le__ = __ge__ = __lt__

    def __hash__(self):
        raise RuntimeError("hashed")

    def __len__(self):
        raise RuntimeError("counted")

    def __iter__(self):
        raise RuntimeError("iterated")

    def __bool__(self):
        raise RuntimeError("asked")


class Yes:
    """A thing that says it is equal to whatever it is compared with."""

    def __eq__(self, other):
        return True

    def __hash__(self):
        return 1


def things():
    """Things of many kinds, none of which is a POLYNOMIAL, but () and a number."""
    return [
        None,
        True,
        False,
        0,
        1,
        -1,
        10**30,
        1.0,
        0.5,
        float("nan"),
        1j,
        "",
        "x",
        "u",
        "total",
        "0",
        b"",
        b"u",
        [],
        [1, 2],
        (),
        (0,),
        (0, 1),
        [0, 1],
        (1, 1, 1),
        ("u", 0, 0),
        ["u", 0, 0],
        ((),),
        ((), (), ()),
        (((), (1, 1)),),
        (((("u", 0, 0), 1),), (1, 1)),
        {},
        {"u": 1},
        set(),
        {1, 2},
        frozenset([1]),
        range(3),
        object(),
        int,
        len,
        Odd(),
        Yes(),
        (Odd(), Odd()),
        (Odd(), Odd(), Odd()),
        (Yes(), Yes(), Yes()),
        ((Odd(), Odd()),),
    ]


def p(text):
    """The POLYNOMIAL of a text."""
    return read_poly(text)


def d(text):
    """The DERIVATIVE of a text, such as "u.xy"."""
    name, _, axes = text.partition(".")
    return (name, axes.count("x"), axes.count("y"))


def chain(*rows):
    """A tuple of pairs, each of a text such as "u.x = v"."""
    pairs = []
    for row in rows:
        left, _, right = row.partition(" = ")
        pairs.append((d(left), p(right)))
    return tuple(pairs)
