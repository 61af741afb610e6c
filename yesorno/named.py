"""The problem of formulas: each formula that is no plain one, sameness or not gets an atom of its own."""

from yesorno.formulas import inner_formulas, inner_trees
from yesorno.problems import SMALL_LETTERS, Problem
from yesorno.reading import add_tree


def plain_names(formulas):
    # A dict of True, as names are asked for only.
    found = {}
    for formula in formulas:
        if formula[0] == "plain":
            found[formula[1]] = True
        found.update(plain_names(inner_formulas(formula)))
    return found


def new_name(number):
    # za, zb, .. zz, zaa, zab and so on, from number 0.
    letters = ""
    left = number + 1
    while left > 0:
        pair = divmod(left - 1, len(SMALL_LETTERS))
        letters = SMALL_LETTERS[pair[1]] + letters
        left = pair[0]
    return "z" + letters


def pair_rows(kind, new, one, other):
    if kind == "and":
        return [(-new, one), (-new, other), (new, -one, -other)]
    if kind == "or":
        return [(-new, one, other), (new, -one), (new, -other)]
    if kind == "then":
        return [(-new, -one, other), (new, one), (new, -other)]
    return [(-new, -one, other), (-new, one, -other), (new, one, other), (new, -one, -other)]


class Namer:
    def __init__(self, formulas):
        self.problem = Problem()
        self.taken = plain_names(formulas)
        self.tries = 0

    def new_atom(self):
        name = new_name(self.tries)
        self.tries += 1
        while name in self.taken:
            name = new_name(self.tries)
            self.tries += 1
        return self.problem.add_plain(name)

    def put_rows(self, rows):
        for row in rows:
            self.problem.add_row(row)

    def same_part(self, formula):
        terms = [add_tree(self.problem, tree) for tree in inner_trees(formula)]
        return self.problem.add_same(terms[0], terms[1])

    def unlike_part(self, formula):
        terms = [add_tree(self.problem, tree) for tree in inner_trees(formula)]
        sames = []
        for place, one in enumerate(terms):
            sames.extend([self.problem.add_same(one, other) for other in terms[place + 1:]])
        new = self.new_atom()
        self.put_rows([(-new, -same) for same in sames])
        self.put_rows([[new] + sames])
        return new

    def bare_part(self, formula):
        new = self.new_atom()
        self.put_rows([(new,) if formula[0] == "always" else (-new,)])
        return new

    def pair_part(self, formula):
        one = self.formula_part(formula[1])
        other = self.formula_part(formula[2])
        new = self.new_atom()
        self.put_rows(pair_rows(formula[0], new, one, other))
        return new

    def formula_part(self, formula):
        kind = formula[0]
        if kind == "plain":
            return self.problem.add_plain(formula[1])
        if kind == "not":
            return -self.formula_part(formula[1])
        if kind == "same":
            return self.same_part(formula)
        if kind == "unlike":
            return self.unlike_part(formula)
        if len(formula) == 1:
            return self.bare_part(formula)
        return self.pair_part(formula)


def named(formulas):
    namer = Namer(formulas)
    for formula in formulas:
        namer.put_rows([(namer.formula_part(formula),)])
    return namer.problem
