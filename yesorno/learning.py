"""What is learnt where a row fails."""

from yesorno.units import levels


def part_levels(trail):
    # Of each part that fails by the trail the level at which its opposite is held.
    found = {}
    for step, level in zip(trail, levels(trail)):
        found[-step[0]] = level
    return found


def is_replaced(part, why, kept, level_of, last):
    if part not in kept or why == -1:
        return False
    if level_of[part] == 0:
        return True
    if level_of[part] != last:
        return False
    return any([level_of[other] == last for other in kept if other != part])


def learnt(rows, trail, fails):
    level_of = part_levels(trail)
    last = level_of[-trail[-1][0]] if len(trail) > 0 else 0
    kept = dict([(part, True) for part in rows[fails]])
    hints = [fails]
    for step in reversed(trail):
        if is_replaced(-step[0], step[1], kept, level_of, last):
            kept.pop(-step[0])
            kept.update(dict([(part, True) for part in rows[step[1]] if part != step[0]]))
            hints.append(step[1])
    parts = tuple([-step[0] for step in reversed(trail) if -step[0] in kept])
    level = max([level_of[part] for part in parts[1:]], default=0)
    return (parts, tuple(reversed(hints)), level)
