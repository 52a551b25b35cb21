"""The interface: each name is defined in the file that lists it, with its arguments as told."""

import importlib
import inspect
import unittest

FUNCTIONS = {
    "words": {
        "is_whole": "(thing)",
        "is_among": "(thing, least, most)",
        "is_name": "(thing)",
        "is_axis": "(thing)",
        "words_of": "(row)",
    },
    "numbers": {
        "is_fraction": "(thing)",
        "fraction": "(top, bottom=1)",
        "sum_of": "(one, other)",
        "difference": "(one, other)",
        "product": "(one, other)",
        "quotient": "(one, other)",
        "number_text": "(one)",
    },
    "polynomials": {
        "is_derivative": "(thing)",
        "is_polynomial": "(thing)",
        "need_polynomial": "(thing)",
        "constant": "(number)",
        "of_derivative": "(derivative, *, power=1)",
        "plus": "(one, other)",
        "less": "(one, other)",
        "times": "(one, other)",
        "scaled": "(one, number)",
        "raised": "(one, power)",
        "derived": "(one, axis, *, many=1)",
        "put_into": "(one, derivative, other)",
        "value_of": "(one, numbers)",
        "is_number": "(one)",
        "number_in": "(one)",
        "degree_of": "(one)",
        "order_of": "(one)",
        "derivatives_in": "(one)",
        "names_in": "(one)",
    },
    "polytext": {
        "derivative_text": "(derivative)",
        "poly_text": "(one)",
        "read_poly": "(text)",
        "term_misfit": "(word, *, first=False)",
    },
    "rankings": {
        "is_ranking": "(thing)",
        "need_ranking": "(ranking)",
        "is_of": "(ranking, thing)",
        "holds_of": "(ranking, thing)",
        "rank_compared": "(ranking, one, other)",
        "in_rank": "(ranking, some)",
        "all_to": "(ranking, order)",
    },
    "leaders": {
        "monomials_compared": "(ranking, one, other)",
        "head_of": "(ranking, polynomial)",
        "leader_of": "(ranking, polynomial)",
        "coefficients_of": "(ranking, polynomial)",
        "initial_of": "(ranking, polynomial)",
        "separant_of": "(ranking, polynomial)",
        "led_of": "(ranking, polynomial)",
    },
    "chains": {
        "derived_by": "(one, other)",
        "least_common": "(one, other)",
        "is_chain": "(ranking, thing)",
        "need_chain": "(ranking, chain)",
        "equation_of": "(ranking, pair)",
        "chain_in_order": "(ranking, pairs)",
        "principal_by": "(ranking, chain, derivative)",
    },
    "normal": {
        "put_for": "(ranking, chain, derivative)",
        "step_of": "(ranking, chain, polynomial)",
        "normal": "(ranking, chain, polynomial)",
        "is_reduced": "(ranking, chain, polynomial)",
        "goes_out": "(ranking, chain, polynomial)",
        "are_like": "(ranking, chain, polynomial, other)",
        "met": "(ranking, chain, polynomial)",
    },
    "reducepaper": {
        "reduce_paper": "(ranking, chain, polynomial)",
        "check_reduce": "(ranking, chain, polynomial, paper)",
    },
    "tables": {
        "table": "(ranking, chain, order)",
        "relations": "(ranking, chain, polynomials)",
    },
    "conditions": {
        "conditions": "(ranking, chain)",
        "is_closed": "(ranking, chain)",
        "need_closed": "(ranking, chain)",
    },
    "spans": {
        "need_equations": "(ranking, equations)",
        "reduced_rows": "(ranking, equations)",
        "is_in_span": "(ranking, equations, polynomial)",
    },
    "closing": {
        "closing": "(ranking, equations)",
        "joinings": "(ranking, equations)",
        "closed_chain": "(ranking, equations)",
    },
    "closingpaper": {
        "paper_rows": "(ranking, equations, rows)",
        "closing_paper": "(ranking, equations)",
        "check_closing": "(ranking, equations, told, paper)",
    },
    "freedoms": {
        "is_free": "(ranking, chain, derivative)",
        "free_to": "(ranking, chain, order)",
        "principal_to": "(ranking, chain, order)",
        "needed": "(ranking, chain, length)",
        "need_paper": "(ranking, chain, length)",
        "check_needs": "(ranking, chain, length, paper)",
    },
    "cones": {
        "free_cones": "(ranking, chain)",
        "principal_cones": "(ranking, chain)",
        "is_cone": "(ranking, thing)",
        "cone_has": "(ranking, cone, derivative)",
        "check_cones": "(ranking, chain, paper)",
    },
    "counts": {
        "counts": "(ranking, chain, *, many=6)",
        "counts_later": "(ranking, chain)",
    },
    "completing": {
        "completed": "(ranking, chain)",
        "gaps": "(ranking, chain)",
        "has_gaps": "(ranking, chain)",
    },
    "elimination": {"alone": "(ranking, chain, many)"},
    "series": {
        "need_data": "(ranking, chain, data)",
        "number_at": "(ranking, chain, derivative, *, data=())",
        "number_of": "(ranking, chain, polynomial, *, data=())",
        "jet_of": "(ranking, chain, *, data=(), length=4)",
        "hangs_on": "(ranking, chain, derivative)",
    },
    "jets": {
        "length_of": "(ranking, jet)",
        "cut_jet": "(ranking, jet, length)",
        "added_jets": "(ranking, jet, other)",
        "scaled_jet": "(ranking, jet, by)",
        "data_of": "(ranking, chain, jet)",
    },
    "taylor": {
        "taylor_of": "(ranking, polynomial, jet)",
        "solves": "(ranking, polynomial, jet)",
        "first_fault": "(ranking, polynomials, jet)",
    },
    "cases": {
        "factors": "(ranking, polynomial)",
        "cases": "(ranking, equations)",
        "is_within": "(ranking, chain, other)",
        "kept_leaves": "(ranking, equations)",
    },
    "follows": {
        "word_of": "(ranking, equations, polynomial)",
        "implied": "(ranking, equations, others)",
        "are_same": "(ranking, equations, others)",
        "breaking": "(ranking, chain, polynomial)",
    },
    "coverpaper": {
        "cover_paper": "(ranking, equations)",
        "check_cover": "(ranking, equations, paper)",
    },
    "followspaper": {
        "follows_paper": "(ranking, equations, polynomial)",
        "check_follows": "(ranking, equations, polynomial, paper)",
    },
    "system": {"is_edit": "(thing)"},
    "systemtext": {
        "edit_text": "(edit)",
        "read_edit": "(words)",
        "system_text": "(system)",
        "read_system": "(text)",
    },
}
VALUES = {
    "words": {"AXES": ("x", "y")},
    "numbers": {"NOUGHT": (0, 1), "ONE": (1, 1)},
    "rankings": {"SORTS": ("total", "names"), "AXES_ALL": (("x",), ("x", "y"), ("y", "x"))},
    "spans": {"MOST_EQUATIONS": 12},
    "series": {"LENGTH": 4, "MOST_LENGTH": 8},
    "cases": {"MOST_LEAVES": 12},
    "system": {"MOST_TOLD": 8, "MOST_ASSUMED": 4, "MOST_MANY": 8},
}
CLASSES = {
    "errors": {
        "BadRow": "(row, word)",
        "BadPolynomial": "(number=None)",
        "BadRanking": "(place=None)",
        "BadChain": "(place=None)",
        "BadData": "(place=None)",
        "BadJet": "(place=None)",
        "BadPaper": "(place=None)",
        "NoUnknown": "(name)",
        "NoEquation": "(number)",
        "NoCase": "(number)",
        "Contradicted": "(number)",
        "Knotted": "(number)",
    },
    "reducer": {"Reducer": "(ranking, chain)"},
    "system": {"System": "(ranking)"},
    "desk": {"Desk": "()"},
}
METHODS = {
    "reducer": {
        "Reducer": {
            "normal": "(self, polynomial)",
            "reduce_paper": "(self, polynomial)",
            "are_like": "(self, polynomial, other)",
            "known": "(self)",
            "knows": "(self, derivative)",
            "forget": "(self)",
            "copied": "(self)",
            "__eq__": "(self, other)",
            "__len__": "(self)",
        },
    },
    "system": {
        "System": {
            "do": "(self, edit)",
            "tell": "(self, polynomial)",
            "take": "(self, number)",
            "assume": "(self, polynomial)",
            "drop": "(self)",
            "rank": "(self, ranking)",
            "many": "(self, edits)",
            "undo": "(self)",
            "redo": "(self)",
            "told": "(self)",
            "assumed": "(self)",
            "equations": "(self)",
            "ranking": "(self)",
            "edits": "(self)",
            "log": "(self)",
            "busy": "(self)",
            "leaves": "(self)",
            "chain": "(self, case)",
            "jet": "(self, case, *, data=(), length=4)",
            "counts": "(self, case, *, many=6)",
            "word_of": "(self, polynomial)",
            "follows_paper": "(self, polynomial)",
            "copied": "(self)",
            "__eq__": "(self, other)",
            "__len__": "(self)",
            "__repr__": "(self)",
        },
    },
    "desk": {"Desk": {"say": "(self, line)", "system": "(self)"}},
}


class Interface(unittest.TestCase):
    def looked_at(self, table):
        for name, parts in table.items():
            module = importlib.import_module(f"rankedchains.{name}")
            for part, due in parts.items():
                thing = getattr(module, part)
                self.assertEqual(thing.__module__, module.__name__, part)
                self.assertEqual(str(inspect.signature(thing)), due, part)

    def test_functions(self):
        self.looked_at(FUNCTIONS)

    def test_classes(self):
        self.looked_at(CLASSES)

    def test_methods_stand_in_the_class_itself(self):
        for name, classes in METHODS.items():
            module = importlib.import_module(f"rankedchains.{name}")
            for kind, parts in classes.items():
                for part, due in parts.items():
                    self.assertEqual(str(inspect.signature(vars(getattr(module, kind))[part])), due, part)

    def test_values(self):
        for name, parts in VALUES.items():
            module = importlib.import_module(f"rankedchains.{name}")
            for part, due in parts.items():
                self.assertEqual(getattr(module, part), due)


if __name__ == "__main__":
    unittest.main()
