"""How a text is read to formulas.

The form of the whole text is looked at ahead of any name: first each row is read, then what is counted in it is
looked at, how deep it is, too; only then are its words.
"""

from yesorno.errors import NoProblem
from yesorno.formulas import BARE, inner_formulas, inner_trees
from yesorno.problems import MOST_TERM_PARTS, ask_name
from yesorno.reading import MOST_BRACKETS, Cursor, text_rows

BETWEEN = ("and", "or", "then", "as")
DEEPEST = 20
LEAST_UNLIKE = 2
MOST_UNLIKE = 5


def take_between(cursor):
    for word in BETWEEN:
        if cursor.takes(" " + word + " "):
            return word
    raise NoProblem("a word is due between two formulas")


def take_two(cursor, left):
    one = take_formula(cursor, left)
    word = take_between(cursor)
    other = take_formula(cursor, left)
    if not cursor.takes(")"):
        raise NoProblem("a bracket is not closed")
    return (word, one, other)


def take_simple(cursor):
    tree = cursor.take_tree(MOST_BRACKETS)
    if cursor.takes(" = "):
        return ("same", tree, cursor.take_tree(MOST_BRACKETS))
    if len(tree[1]) > 0:
        raise NoProblem("a tree with brackets stands by itself")
    return (tree[0],) if tree[0] in BARE else ("plain", tree[0])


def take_formula(cursor, left):
    # Asked ahead of going in, so that no text makes the calls deeper than this.
    if left == 0:
        raise NoProblem(f"a formula is deeper than {DEEPEST}")
    if cursor.takes("not "):
        return ("not", take_formula(cursor, left - 1))
    if cursor.takes("unlike("):
        return ("unlike", cursor.take_trees(MOST_BRACKETS))
    if cursor.takes("("):
        return take_two(cursor, left - 1)
    return take_simple(cursor)


def tree_depth(tree):
    return 1 + max([tree_depth(part) for part in tree[1]], default=0)


def depth(formula):
    within = [tree_depth(tree) for tree in inner_trees(formula)]
    within.extend([depth(inner) for inner in inner_formulas(formula)])
    return 1 + max(within, default=0)


def ask_tree(tree):
    if len(tree[1]) > MOST_TERM_PARTS:
        raise NoProblem(f"a tree has more than {MOST_TERM_PARTS} trees")
    for part in tree[1]:
        ask_tree(part)


def ask_unlike(trees):
    if len(trees) < LEAST_UNLIKE or len(trees) > MOST_UNLIKE:
        raise NoProblem(f"unlike is of {LEAST_UNLIKE} to {MOST_UNLIKE} trees")
    for place, tree in enumerate(trees):
        if tree in trees[:place]:
            raise NoProblem("unlike is of trees that are the same")


def ask_counts(formula):
    if formula[0] == "unlike":
        ask_unlike(formula[1])
    for tree in inner_trees(formula):
        ask_tree(tree)
    for inner in inner_formulas(formula):
        ask_counts(inner)


def formed(row):
    cursor = Cursor(row)
    formula = take_formula(cursor, DEEPEST)
    if not cursor.is_over():
        raise NoProblem(f"{row!r} is no formula")
    if depth(formula) > DEEPEST:
        raise NoProblem(f"a formula is deeper than {DEEPEST}")
    ask_counts(formula)
    return formula


def ask_tree_names(tree):
    ask_name(tree[0])
    for part in tree[1]:
        ask_tree_names(part)


def ask_names(formula):
    if formula[0] == "plain":
        ask_name(formula[1])
    for tree in inner_trees(formula):
        ask_tree_names(tree)
    for inner in inner_formulas(formula):
        ask_names(inner)


def understood(text):
    formulas = [formed(row) for row in text_rows(text)]
    for formula in formulas:
        ask_names(formula)
    return formulas
