"""What several tests hand in: things of any kind, and short ways to write POLYNOMIALS."""

from rankedchains.polytext import read_poly


class Odd:
    """A thing that can't be compared, counted, iterated, hashed or asked for its truth."""

    def __eq__(self, other):
        raise RuntimeError("compared")

    def __lt__(self, other):
        raise RuntimeError("compared")

    __gt__ = __le__ = __ge__ = __lt__

    def __hash__(self):
        raise RuntimeError("hashed")

    def __len__(self):
        raise RuntimeError("counted")

    def __iter__(self):
        raise RuntimeError("iterated")

    def __bool__(self):
        raise RuntimeError("asked")


class Yes:
    """A thing that says it is equal to whatever it is compared with."""

    def __eq__(self, other):
        return True

    def __hash__(self):
        return 1


def things():
    """Things of many kinds, none of which is a POLYNOMIAL, but () and a number."""
    return [
        None,
        True,
        False,
        0,
        1,
        -1,
        10**30,
        1.0,
        0.5,
        float("nan"),
        1j,
        "",
        "x",
        "u",
        "total",
        "0",
        b"",
        b"u",
        [],
        [1, 2],
        (),
        (0,),
        (0, 1),
        [0, 1],
        (1, 1, 1),
        ("u", 0, 0),
        ["u", 0, 0],
        ((),),
        ((), (), ()),
        (((), (1, 1)),),
        (((("u", 0, 0), 1),), (1, 1)),
        {},
        {"u": 1},
        set(),
        {1, 2},
        frozenset([1]),
        range(3),
        object(),
        int,
        len,
        Odd(),
        Yes(),
        (Odd(), Odd()),
        (Odd(), Odd(), Odd()),
        (Yes(), Yes(), Yes()),
        ((Odd(), Odd()),),
    ]


def p(text):
    """The POLYNOMIAL of a text."""
    return read_poly(text)


def d(text):
    """The DERIVATIVE of a text, such as "u.xy"."""
    name, _, axes = text.partition(".")
    return (name, axes.count("x"), axes.count("y"))


def chain(*rows):
    """A tuple of pairs, each of a text such as "u.x = v"."""
    pairs = []
    for row in rows:
        left, _, right = row.partition(" = ")
        pairs.append((d(left), p(right)))
    return tuple(pairs)


def but(*good):
    """All of the things but those that are good."""
    shown = [repr(thing) for thing in good]
    return [thing for thing in things() if repr(thing) not in shown]


NO_RANKINGS = things()
NO_CHAINS = but(())
NO_POLYNOMIALS = but((), (((), (1, 1)),)) + [p("w"), p("u + w.x"), [()], ((((("u", True, 0), 1),), (1, 1)),)]
NO_DERIVATIVES = but(("u", 0, 0)) + [("w", 0, 0), ("u", -1, 0), ("u", True, 0), ("u", 0, 0, 0)]
# Things that are no CHAIN by a RANKING that has u and v alone, and both AXES or the first one.
NO_CHAINS_OF_UV = NO_CHAINS + [
    list(chain("u.xx = u.x")),
    chain("u = u"),
    chain("u.xx = 0", "u = 0"),
    chain("w = 0"),
    chain("u.x = 0", "u.xx = 0"),
    chain("v = 0", "u = v"),
]
NO_EQUATIONS = [thing for thing in things() if not isinstance(thing, tuple)] + [
    [p("u")],
    (p("u"),) * 13,
    ((),) * 13,
    (None,) * 13,
]
# EQUATIONS with something else among them.
WITH_NONE = [(thing,) for thing in NO_POLYNOMIALS] + [(p("u"), p("v"), None), (p("u"), Odd()), (Yes(), p("u"))]


def refused_in_order(test, call, good, bad):
    """Looks that each argument is refused by its class, whatever stands behind it.

    bad has, for each argument, a class of refusals and things that are refused by it.
    """
    for place, (kind, some) in enumerate(bad):
        for thing in some:
            behind = [things_behind[0] for _, things_behind in bad[place + 1 :]]
            for rest in (list(good[place + 1 :]), behind + list(good[len(bad) :])):
                with test.assertRaises(kind, msg=repr(type(thing))) as caught:
                    call(*good[:place], thing, *rest)
                test.assertIs(type(caught.exception), kind)
