"""Terms, atoms and rows: what a problem tells, and how it is added to."""

from yesorno.errors import BadName, BadPart, BadTerm, TooMany

SMALL_LETTERS = "abcdefghijklmnopqrstuvwxyz"
KEPT_WORDS = ("or", "and", "not", "never", "always", "then", "as", "unlike")
LONGEST_NAME = 8
MOST_TERM_PARTS = 3
MOST_TERMS = 60
MOST_ATOMS = 40
MOST_ROW_PARTS = 20
MOST_ROWS = 200


def is_word(text):
    # Letters are asked for one by one, as a text's own tests let other alphabets by.
    return len(text) > 0 and all([letter in SMALL_LETTERS for letter in text])


def is_name(word):
    return is_word(word) and len(word) <= LONGEST_NAME and word not in KEPT_WORDS


def ask_name(word):
    if not is_name(word):
        raise BadName(f"{word!r} is no name")


def once_each(parts):
    kept = []
    for part in parts:
        if part not in kept:
            kept.append(part)
    return tuple(kept)


def place_of(thing, things, most):
    # What is there already is given ahead of the bound: the bound is on new things alone.
    if thing in things:
        return things.index(thing)
    if len(things) >= most:
        raise TooMany(f"there are {most} already")
    things.append(thing)
    return len(things) - 1


class Problem:
    def __init__(self):
        self.terms = []
        self.atoms = []
        self.rows = []

    def ask_term(self, number):
        if number < 0 or number >= len(self.terms):
            raise BadTerm(f"{number} is no term's number")

    def ask_part(self, part):
        if part == 0 or abs(part) > len(self.atoms):
            raise BadPart(f"{part} is no part")

    def add_term(self, name, parts):
        ask_name(name)
        if len(parts) > MOST_TERM_PARTS:
            raise BadTerm(f"{name} has more than {MOST_TERM_PARTS} parts")
        for part in parts:
            self.ask_term(part)
        return place_of((name, tuple(parts)), self.terms, MOST_TERMS)

    def add_plain(self, name):
        ask_name(name)
        return place_of(("plain", name), self.atoms, MOST_ATOMS) + 1

    def add_same(self, one, other):
        self.ask_term(one)
        self.ask_term(other)
        turned = ("same", other, one)
        if turned in self.atoms:
            return self.atoms.index(turned) + 1
        return place_of(("same", one, other), self.atoms, MOST_ATOMS) + 1

    def add_row(self, parts):
        for part in parts:
            self.ask_part(part)
        if len(parts) > MOST_ROW_PARTS:
            raise TooMany(f"a row is told by at most {MOST_ROW_PARTS} parts")
        if len(self.rows) >= MOST_ROWS:
            raise TooMany(f"there are {MOST_ROWS} rows already")
        self.rows.append(once_each(parts))
        return len(self.rows) - 1
