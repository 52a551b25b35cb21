"""A REDUCER: NORMAL FORMS by one CHAIN, none of what is MET reckoned twice."""

from rankedchains.chains import need_chain
from rankedchains.leaders import need_one
from rankedchains.normal import Putting
from rankedchains.polynomials import less
from rankedchains.rankings import need_derivative, rising
from rankedchains.reducepaper import paper_by


class Reducer:
    """It KNOWS the NORMAL FORM of each DERIVATIVE that was MET so far."""

    def __init__(self, ranking, chain):
        need_chain(ranking, chain)
        self.ranked_by = ranking
        self.pairs = chain
        self.putting = Putting(ranking, chain)

    def normal(self, polynomial):
        """The NORMAL FORM of a POLYNOMIAL."""
        need_one(self.ranked_by, polynomial)
        return self.putting.form_of(polynomial)

    def reduce_paper(self, polynomial):
        """A REDUCE PAPER of a POLYNOMIAL, with its NORMAL FORM."""
        need_one(self.ranked_by, polynomial)
        return paper_by(self.putting, polynomial)

    def are_like(self, polynomial, other):
        """Whether the difference of two POLYNOMIALS GOES OUT."""
        need_one(self.ranked_by, polynomial)
        need_one(self.ranked_by, other)
        return self.putting.form_of(less(polynomial, other)) == ()

    def known(self):
        """A list of pairs (DERIVATIVE, NORMAL FORM) of all that it KNOWS, rising."""
        forms = self.putting.forms
        return [(derivative, forms[derivative]) for derivative in rising(self.ranked_by, forms)]

    def knows(self, derivative):
        """Whether it KNOWS the NORMAL FORM of a DERIVATIVE."""
        need_derivative(self.ranked_by, derivative)
        return derivative in self.putting.forms

    def forget(self):
        """How many it knew; it KNOWS none then."""
        many = len(self.putting.forms)
        self.putting.forms = {}
        return many

    def copied(self):
        """Another one that KNOWS the same, and goes on by itself."""
        other = Reducer(self.ranked_by, self.pairs)
        forms = self.putting.forms
        other.putting.forms = {derivative: forms[derivative] for derivative in forms}
        return other

    def __eq__(self, other):
        return isinstance(other, Reducer) and self.ranked_by == other.ranked_by and self.pairs == other.pairs

    def __len__(self):
        return len(self.putting.forms)
