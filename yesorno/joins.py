"""Which terms are the same where pairs of terms are given as the same, told by links."""


class Groups:
    # Terms that hang together; a term that was never merged stands by itself.
    def __init__(self):
        self.least = {}
        self.gathered = {}

    def head(self, term):
        return self.least.get(term, term)

    def together(self, one, other):
        return self.head(one) == self.head(other)

    def merge(self, one, other):
        low = min(self.head(one), self.head(other))
        high = max(self.head(one), self.head(other))
        if low == high:
            return
        moved = self.gathered.get(high, [high])
        for term in moved:
            self.least[term] = low
        self.gathered[low] = self.gathered.get(low, [low]) + moved


def given_links(given, groups):
    found = []
    for number, pair in enumerate(given):
        if not groups.together(pair[0], pair[1]):
            groups.merge(pair[0], pair[1])
            found.append((pair[0], pair[1], number))
    return found


def alike_links(terms, groups):
    # A sign that was noted ahead of a merge still tells true: what was joined stays joined.
    noted = {}
    found = []
    for number, term in enumerate(terms):
        sign = (term[0], tuple([groups.head(part) for part in term[1]]))
        first = noted.setdefault(sign, number)
        if not groups.together(first, number):
            groups.merge(first, number)
            found.append((first, number, -1))
    return found


def links(terms, given):
    groups = Groups()
    found = given_links(given, groups)
    more = alike_links(terms, groups)
    # Each merge may make further terms alike, so it is over only behind a walk without one.
    while len(more) > 0:
        found.extend(more)
        more = alike_links(terms, groups)
    return found


def groups_of(links):
    groups = Groups()
    for link in links:
        groups.merge(link[0], link[1])
    return groups


def joined(links, one, other):
    return groups_of(links).together(one, other)


def heads(many, links):
    groups = groups_of(links)
    return [groups.head(term) for term in range(many)]
