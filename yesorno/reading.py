"""How a text is read to a problem.

The form of the whole text is looked at ahead of any adding, so reading goes in two steps:
first to trees, tuples (word, trees), within atoms, parts and rows; then from these to a problem.
"""

from yesorno.errors import NoProblem
from yesorno.problems import SMALL_LETTERS, Problem, is_word

MOST_BRACKETS = 20


class Cursor:
    def __init__(self, text):
        self.text = text
        self.place = 0

    def is_over(self):
        return self.place == len(self.text)

    def takes(self, signs):
        if not self.text.startswith(signs, self.place):
            return False
        self.place += len(signs)
        return True

    def take_word(self):
        begin = self.place
        while not self.is_over() and self.text[self.place] in SMALL_LETTERS:
            self.place += 1
        if self.place == begin:
            raise NoProblem(f"a word is due at sign {begin} of a term")
        return self.text[begin:self.place]

    def take_tree(self, brackets):
        word = self.take_word()
        if not self.takes("("):
            return (word, ())
        # Asked ahead of going in, so that no text makes the calls deeper than this.
        if brackets == 0:
            raise NoProblem(f"brackets more than {MOST_BRACKETS} deep")
        return (word, self.take_trees(brackets - 1))

    def take_trees(self, brackets):
        trees = [self.take_tree(brackets)]
        while self.takes(", "):
            trees.append(self.take_tree(brackets))
        if not self.takes(")"):
            raise NoProblem("a bracket is not closed")
        return tuple(trees)


def formed_tree(text):
    cursor = Cursor(text)
    tree = cursor.take_tree(MOST_BRACKETS)
    if not cursor.is_over():
        raise NoProblem(f"{text!r} is no term")
    return tree


def formed_atom(text):
    if is_word(text):
        return ("plain", text)
    sides = text.split(" = ")
    if len(sides) != 2:
        raise NoProblem(f"{text!r} is no atom")
    return ("same", formed_tree(sides[0]), formed_tree(sides[1]))


def formed_part(text):
    # Behind "not = " there is no atom that begins with "= ": there "not" is a term's word.
    if text.startswith("not ") and not text.startswith("not = "):
        return (False, formed_atom(text[len("not "):]))
    return (True, formed_atom(text))


def formed_row(text):
    if text == "never":
        return []
    return [formed_part(part) for part in text.split(" or ")]


def text_rows(text):
    if text == "":
        return []
    if not text.endswith("\n"):
        raise NoProblem("the last line end is left out")
    return text[:-1].split("\n")


def add_tree(problem, tree):
    numbers = [add_tree(problem, part) for part in tree[1]]
    return problem.add_term(tree[0], numbers)


def add_atom(problem, atom):
    if atom[0] == "plain":
        return problem.add_plain(atom[1])
    one = add_tree(problem, atom[1])
    other = add_tree(problem, atom[2])
    return problem.add_same(one, other)


def add_part(problem, part):
    number = add_atom(problem, part[1])
    return number if part[0] else -number


def read(text):
    rows = [formed_row(row) for row in text_rows(text)]
    problem = Problem()
    for row in rows:
        problem.add_row([add_part(problem, part) for part in row])
    return problem
