"""Which of the links are needed for two terms to be joined."""

from yesorno.errors import NotJoined


def steps_of(links):
    # For each term where its links lead: the term at the other end, and the link's place.
    steps = {}
    for place, link in enumerate(links):
        steps.setdefault(link[0], []).append((link[1], place))
        steps.setdefault(link[1], []).append((link[0], place))
    return steps


def way(steps, one, other):
    # No link joins what is joined already, so the first way that is found is the only one.
    found = {one: ()}
    waiting = [one]
    while len(waiting) > 0 and other not in found:
        term = waiting.pop()
        for step in steps.get(term, []):
            if step[0] not in found:
                found[step[0]] = found[term] + (step[1],)
                waiting.append(step[0])
    if other not in found:
        raise NotJoined(f"no links lead from {one} to {other}")
    return found[other]


def part_pairs(terms, link):
    if link[2] != -1:
        return []
    return list(zip(terms[link[0]][1], terms[link[1]][1]))


def ways(terms, links, one, other):
    steps = steps_of(links)
    needed = {}
    waiting = [(one, other)]
    while len(waiting) > 0:
        pair = waiting.pop()
        for place in way(steps, pair[0], pair[1]):
            if place not in needed:
                needed[place] = True
                waiting.extend(part_pairs(terms, links[place]))
    return [links[place] for place in sorted(needed)]
