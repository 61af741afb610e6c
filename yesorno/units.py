"""What rows force behind a trail of held parts."""

from yesorno.problems import once_each


def held_by(trail):
    return dict([(step[0], True) for step in trail])


def open_parts(row, held):
    return once_each([part for part in row if part not in held and -part not in held])


def is_due(row, held):
    if any([part in held for part in row]):
        return False
    return len(open_parts(row, held)) <= 1


def first_due(rows, held):
    for number, row in enumerate(rows):
        if is_due(row, held):
            return number
    return None


def grown(rows, trail):
    longer = list(trail)
    held = held_by(trail)
    number = first_due(rows, held)
    while number is not None:
        forced = open_parts(rows[number], held)
        if len(forced) == 0:
            return (longer, number)
        longer.append((forced[0], number))
        held[forced[0]] = True
        number = first_due(rows, held)
    return (longer, None)


def levels(trail):
    found = []
    level = 0
    for step in trail:
        if step[1] == -1:
            level += 1
        found.append(level)
    return found
