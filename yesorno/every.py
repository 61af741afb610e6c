"""All the ways in which some atoms can hold or not."""

from yesorno.choices import chosen
from yesorno.errors import BadPart, TooMany
from yesorno.search import search
from yesorno.trims import part_of

MOST_TUPLES = 64


def ask_atoms(problem, atoms):
    for place, atom in enumerate(atoms):
        if atom < 1 or atom > len(problem.atoms):
            raise BadPart(f"{atom} is no atom's number")
        if atom in atoms[:place]:
            raise BadPart(f"{atom} stands twice")


def every(problem, atoms, most=2000):
    ask_atoms(problem, atoms)
    longer = part_of(problem, list(range(len(problem.rows))))
    told = []
    choices = []
    found = search(longer, most)
    while found[0] == "yes":
        if len(told) == MOST_TUPLES:
            raise TooMany(f"there are more than {MOST_TUPLES}")
        parts = tuple([found[1][atom - 1] for atom in atoms])
        told.append(parts)
        choices.append(chosen(longer, found[1]))
        longer.add_row([-part for part in parts])
        found = search(longer, most)
    return (told, choices, found[1])
