"""Formulas and the trees in them: what stands within them, and how they are written."""

BARE = ("always", "never")
OF_FORMULAS = ("not", "and", "or", "then", "as")


def inner_trees(formula):
    if formula[0] == "same":
        return list(formula[1:])
    return list(formula[1]) if formula[0] == "unlike" else []


def inner_formulas(formula):
    return list(formula[1:]) if formula[0] in OF_FORMULAS else []


def shown_tree(tree):
    if len(tree[1]) == 0:
        return tree[0]
    return tree[0] + "(" + ", ".join([shown_tree(part) for part in tree[1]]) + ")"


def shown_formula(formula):
    kind = formula[0]
    if kind in BARE:
        return kind
    if kind == "plain":
        return formula[1]
    trees = [shown_tree(tree) for tree in inner_trees(formula)]
    if kind == "same":
        return " = ".join(trees)
    if kind == "unlike":
        return "unlike(" + ", ".join(trees) + ")"
    within = [shown_formula(inner) for inner in inner_formulas(formula)]
    if kind == "not":
        return "not " + within[0]
    return "(" + within[0] + " " + kind + " " + within[1] + ")"


def shown(formulas):
    return "".join([shown_formula(formula) + "\n" for formula in formulas])
