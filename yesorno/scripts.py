"""How papers are written, and how they are read."""

from yesorno.errors import BadPaper

FIGURES = "0123456789"
MOST_FIGURES = 9


def shown_list(texts):
    return " ".join(texts) if len(texts) > 0 else "none"


def shown_link(link):
    return "-".join([str(number) for number in link])


def shown_line(line):
    parts = shown_list([str(part) for part in line[1]])
    if line[0] == "learnt":
        return "learnt " + parts + " by " + shown_list([str(hint) for hint in line[2]])
    return "equal " + parts + " by " + shown_list([shown_link(link) for link in line[2]])


def shown_paper(paper):
    return "".join([shown_line(line) + "\n" for line in paper])


def read_number(text):
    if len(text) == 0 or len(text) > MOST_FIGURES or not all([sign in FIGURES for sign in text]):
        raise BadPaper(f"{text!r} is no number from 0 on of at most {MOST_FIGURES} figures")
    if text[0] == "0" and text != "0":
        raise BadPaper(f"{text!r} has noughts ahead")
    return int(text)


def read_part(text):
    below = text.startswith("-")
    number = read_number(text[1:] if below else text)
    if number == 0:
        raise BadPaper("0 is no part")
    return -number if below else number


def read_link(text):
    numbers = tuple([read_number(piece) for piece in text.split("-")])
    if len(numbers) != 3:
        raise BadPaper(f"{text!r} is no link")
    return numbers


def pieces_of(text):
    return [] if text == "none" else text.split(" ")


def read_line(row):
    sides = row.split(" by ")
    if len(sides) != 2:
        raise BadPaper(f"{row!r} is no line")
    head = sides[0].partition(" ")
    parts = tuple([read_part(piece) for piece in pieces_of(head[2])])
    if head[0] == "learnt":
        return ("learnt", parts, tuple([read_number(piece) for piece in pieces_of(sides[1])]))
    if head[0] == "equal":
        return ("equal", parts, tuple([read_link(piece) for piece in pieces_of(sides[1])]))
    raise BadPaper(f"{row!r} is no line")


def read_paper(text):
    if text == "":
        return []
    if not text.endswith("\n"):
        raise BadPaper("the last line end is left out")
    return [read_line(row) for row in text[:-1].split("\n")]
