"""Point 14, and point 3 as far as it touches it."""

import copy
import random
import unittest

from helping import components, random_pairs, random_terms, refusal
from yesorno.errors import ChoiceError, NotJoined
from yesorno.joins import links
from yesorno.ways import ways

PLAIN = [("a", ()), ("b", ()), ("c", ()), ("d", ()), ("e", ())]


def one_way(told, one, other, been=()):
    """The places of the links on the one way, None where there is none."""
    if one == other:
        return []
    for place, link in enumerate(told):
        if place not in been and one in link[:2]:
            end = link[0] if link[1] == one else link[1]
            rest = one_way(told, end, other, been + (place,))
            if rest is not None:
                return [place] + rest
    return None


def by_hand(terms, told, one, other):
    """The links of 14, found by going the ways one by one."""
    taken = set()
    todo = [(one, other)]
    while todo:
        for place in one_way(told, *todo.pop()):
            if place not in taken:
                taken.add(place)
                start, end, how = told[place]
                if how == -1:
                    todo.extend(zip(terms[start][1], terms[end][1]))
    return [told[place] for place in sorted(taken)]


class Ways(unittest.TestCase):
    def test_a_term_and_itself(self):
        self.assertEqual(ways(PLAIN, [], 0, 0), [])
        self.assertEqual(ways(PLAIN, [(0, 1, 0)], 0, 0), [])
        self.assertEqual(ways(PLAIN, [(0, 1, 0)], 3, 3), [])

    def test_one_link_either_way(self):
        self.assertEqual(ways(PLAIN, [(2, 1, 0)], 1, 2), [(2, 1, 0)])
        self.assertEqual(ways(PLAIN, [(2, 1, 0)], 2, 1), [(2, 1, 0)])

    def test_links_keep_their_order(self):
        told = [(3, 2, 0), (0, 1, 1), (1, 2, 2), (3, 4, 3)]
        self.assertEqual(ways(PLAIN, told, 0, 3), [(3, 2, 0), (0, 1, 1), (1, 2, 2)])
        self.assertEqual(ways(PLAIN, told, 3, 0), [(3, 2, 0), (0, 1, 1), (1, 2, 2)])
        self.assertEqual(ways(PLAIN, told, 4, 2), [(3, 2, 0), (3, 4, 3)])

    def test_no_link_without_need(self):
        told = [(0, 1, 0), (0, 2, 1), (0, 3, 2), (4, 3, 3)]
        self.assertEqual(ways(PLAIN, told, 1, 2), [(0, 1, 0), (0, 2, 1)])
        self.assertEqual(ways(PLAIN, told, 3, 4), [(4, 3, 3)])
        self.assertEqual(ways(PLAIN, told, 0, 2), [(0, 2, 1)])

    def test_the_ways_between_parts(self):
        terms = PLAIN + [("f", (0, 2)), ("f", (1, 3)), ("g", (5,)), ("g", (6,))]
        told = [(0, 1, 0), (4, 0, 1), (3, 2, 2), (5, 6, -1), (8, 7, -1)]
        self.assertEqual(ways(terms, told, 5, 6), [(0, 1, 0), (3, 2, 2), (5, 6, -1)])
        self.assertEqual(ways(terms, told, 7, 8), [(0, 1, 0), (3, 2, 2), (5, 6, -1), (8, 7, -1)])
        self.assertEqual(ways(terms, told, 1, 4), [(0, 1, 0), (4, 0, 1)])

    def test_parts_that_are_the_same_term_need_nothing(self):
        terms = PLAIN + [("f", (0, 2, 1)), ("f", (0, 3, 1))]
        told = [(0, 1, 0), (2, 3, 1), (5, 6, -1)]
        self.assertEqual(ways(terms, told, 6, 5), [(2, 3, 1), (5, 6, -1)])

    def test_a_link_of_a_number_needs_no_parts(self):
        terms = PLAIN + [("f", (0,)), ("f", (1,))]
        self.assertEqual(ways(terms, [(0, 1, 0), (5, 6, 1)], 5, 6), [(5, 6, 1)])
        self.assertEqual(ways(terms, [(5, 6, 0)], 5, 6), [(5, 6, 0)])

    def test_way_and_parts_share_links(self):
        terms = [("a", ())] + [("f", (number,)) for number in range(5)]
        told = [(0, 3, 0), (0, 5, 1), (1, 4, -1), (2, 5, -1), (1, 3, -1)]
        self.assertEqual(ways(terms, told, 0, 1), told)
        self.assertEqual(ways(terms, told, 2, 0), [(0, 3, 0), (0, 5, 1), (1, 4, -1), (2, 5, -1)])
        self.assertEqual(ways(terms, told, 5, 0), [(0, 5, 1)])

    def test_the_first_links_alone(self):
        terms = [("a", ())] + [("f", (number,)) for number in range(5)]
        told = [(0, 3, 0), (0, 5, 1), (1, 4, -1), (2, 5, -1), (1, 3, -1)]
        self.assertEqual(ways(terms, told[:3], 1, 4), [(0, 3, 0), (1, 4, -1)])
        self.assertEqual(refusal(ways, terms, told[:3], 1, 3), NotJoined)
        self.assertEqual(refusal(ways, terms, told[:4], 0, 1), NotJoined)

    def test_a_long_chain(self):
        terms = [("a", ())] + [("f", (number,)) for number in range(59)]
        told = links(terms, [(0, 1)])
        self.assertEqual(ways(terms, told, 0, 59), told)
        self.assertEqual(ways(terms, told[:1], 0, 1), [(0, 1, 0)])

    def test_by_chance(self):
        chance = random.Random(14)
        for count in range(300):
            size = chance.randrange(1, 15)
            terms = random_terms(chance, size, "abf")
            given = random_pairs(chance, chance.randrange(7), size)
            told = links(terms, given)
            told = told[:chance.randrange(len(told) + 1)]
            found = components([link[:2] for link in told], size)
            for one, other in random_pairs(chance, 8, size):
                if found[one] == found[other]:
                    self.assertEqual(ways(terms, told, one, other), by_hand(terms, told, one, other))
                else:
                    self.assertEqual(refusal(ways, terms, told, one, other), NotJoined)


class Refused(unittest.TestCase):
    def test_not_joined(self):
        self.assertEqual(refusal(ways, PLAIN, [], 0, 1), NotJoined)
        self.assertEqual(refusal(ways, PLAIN, [(0, 1, 0), (2, 3, 1)], 1, 2), NotJoined)
        self.assertEqual(refusal(ways, PLAIN, [(0, 1, 0), (2, 3, 1)], 4, 0), NotJoined)

    def test_its_class(self):
        with self.assertRaises(NotJoined) as taken:
            ways(PLAIN, [], 0, 1)
        self.assertIsInstance(taken.exception, ChoiceError)
        self.assertIsInstance(taken.exception, ValueError)


class Stays(unittest.TestCase):
    def test_what_is_handed_in_stays(self):
        terms = [("a", ())] + [("f", (number,)) for number in range(5)]
        told = links(terms, [(0, 3), (0, 5)])
        kept = copy.deepcopy((terms, told))
        first = ways(terms, told, 0, 1)
        self.assertEqual((terms, told), kept)
        self.assertIs(type(first), list)
        again = list(first)
        first.clear()
        self.assertEqual(told, kept[1])
        self.assertEqual(ways(terms, told, 0, 1), again)

    def test_what_was_told_stays(self):
        told = [(0, 1, 0), (1, 2, 1)]
        first = ways(PLAIN, told, 0, 2)
        told.clear()
        self.assertEqual(first, [(0, 1, 0), (1, 2, 1)])


if __name__ == "__main__":
    unittest.main()
