"""Points 11 to 13, and point 3 as far as it touches them."""

import copy
import random
import unittest

from helping import classes, components, random_pairs, random_terms
from yesorno.joins import heads, joined, links

PLAIN = [("a", ()), ("b", ()), ("c", ()), ("d", ())]


def chain(length, name="f"):
    """a, f(a), f(f(a)) and so on."""
    return [("a", ())] + [(name, (number,)) for number in range(length)]


class Checked(unittest.TestCase):
    def check(self, terms, given):
        """Asks for links and looks whether they are as 12 (a) to (d) have them."""
        kept = (copy.deepcopy(terms), copy.deepcopy(given))
        told = links(terms, given)
        self.assertEqual((terms, given), kept)
        self.assertIs(type(told), list)
        for place, link in enumerate(told):
            self.assertIs(type(link), tuple)
            one, other, how = link
            ahead = components([(a, b) for a, b, c in told[:place]], len(terms))
            self.assertNotEqual(ahead[one], ahead[other], "a")
            if how >= 0:
                self.assertEqual((one, other), given[how], "b")
            else:
                self.assertEqual(how, -1)
                self.assertEqual(terms[one][0], terms[other][0], "c")
                self.assertEqual([ahead[part] for part in terms[one][1]],
                                 [ahead[part] for part in terms[other][1]], "c")
        self.assertEqual(components([(a, b) for a, b, c in told], len(terms)), classes(terms, given), "d")
        return told


class Links(Checked):
    def test_nothing(self):
        self.assertEqual(self.check([], []), [])
        self.assertEqual(self.check(PLAIN, []), [])

    def test_one_pair(self):
        self.assertEqual(self.check(PLAIN, [(0, 2)]), [(0, 2, 0)])
        self.assertEqual(self.check(PLAIN, [(2, 0)]), [(2, 0, 0)])

    def test_a_term_with_itself(self):
        self.assertEqual(self.check(PLAIN, [(1, 1)]), [])
        self.assertEqual(self.check(PLAIN, [(1, 1), (3, 2), (0, 0)]), [(3, 2, 1)])

    def test_pairs_that_are_alike_or_turned_about(self):
        self.assertEqual(len(self.check(PLAIN, [(0, 1), (0, 1), (1, 0), (0, 1)])), 1)
        self.assertEqual(len(self.check(PLAIN, [(1, 0), (0, 1), (2, 1), (1, 2), (0, 2)])), 2)

    def test_a_ring(self):
        self.assertEqual(len(self.check(PLAIN, [(0, 1), (1, 2), (2, 3), (3, 0)])), 3)

    def test_two_classes_that_stay_apart(self):
        told = self.check(PLAIN, [(3, 0), (2, 1)])
        self.assertEqual(sorted(told), [(2, 1, 1), (3, 0, 0)])

    def test_functions(self):
        terms = [("a", ()), ("b", ()), ("f", (0,)), ("f", (1,))]
        told = self.check(terms, [(0, 1)])
        self.assertEqual(told[0], (0, 1, 0))
        self.assertIn(told[1], [(2, 3, -1), (3, 2, -1)])
        self.assertEqual(self.check(terms, [(2, 3)]), [(2, 3, 0)])
        self.assertEqual(self.check(terms, []), [])

    def test_a_pair_that_functions_join_too(self):
        terms = [("a", ()), ("b", ()), ("f", (0,)), ("f", (1,))]
        self.assertEqual(len(self.check(terms, [(2, 3), (0, 1)])), 2)
        self.assertEqual(len(self.check(terms, [(0, 1), (3, 2)])), 2)

    def test_every_place_of_the_parts_counts(self):
        terms = PLAIN + [("f", (0, 2)), ("f", (1, 3)), ("f", (0, 3)), ("f", (2, 0))]
        self.assertEqual(len(self.check(terms, [(0, 1)])), 2)
        self.assertEqual(len(self.check(terms, [(2, 3)])), 2)
        self.assertEqual(len(self.check(terms, [(0, 1), (2, 3)])), 4)
        self.assertEqual(len(self.check(terms, [(0, 2)])), 2)

    def test_three_parts(self):
        terms = PLAIN + [("f", (0, 1, 2)), ("f", (0, 1, 3)), ("f", (1, 0, 2)), ("f", (3, 1, 2))]
        for given in ([(2, 3)], [(0, 1)], [(0, 3)], [(0, 1), (2, 3)], [(0, 1), (1, 2), (2, 3)]):
            self.check(terms, given)

    def test_other_names_are_other_functions(self):
        terms = [("a", ()), ("b", ()), ("f", (0,)), ("g", (1,)), ("f", (1,)), ("g", (0,))]
        self.assertEqual(len(self.check(terms, [(0, 1)])), 3)

    def test_other_counts_of_parts_are_other_functions(self):
        terms = [("f", ()), ("a", ()), ("f", (0,)), ("f", (1,)), ("f", (0, 0)), ("f", (1, 1)), ("f", (0, 0, 0))]
        self.assertEqual(len(self.check(terms, [(0, 1)])), 3)
        self.assertEqual(len(self.check(terms, [(2, 4)])), 1)

    def test_terms_made_alike_late(self):
        for length in (3, 10, 59):
            terms = chain(length)
            self.assertEqual(len(self.check(terms, [(0, 1)])), length)
            self.assertEqual(len(self.check(terms, [(length, length - 1)])), 1)

    def test_two_rounds_join_all_of_a_chain(self):
        # f(f(f(a))) and five f of a are the same as a, so f(a) is, too.
        self.assertEqual(len(self.check(chain(5), [(0, 3), (0, 5)])), 5)
        self.assertEqual(len(self.check(chain(5), [(5, 0), (3, 0)])), 5)
        self.assertEqual(len(self.check(chain(12), [(0, 8), (12, 0)])), 9)

    def test_alike_only_behind_a_later_term(self):
        # The walk comes to f(b) ahead of what makes b the same as a.
        terms = [("a", ()), ("b", ()), ("f", (1,)), ("f", (0,)), ("g", (2,)), ("g", (3,)), ("h", (5, 0)),
                 ("h", (4, 1))]
        self.assertEqual(len(self.check(terms, [(6, 0), (7, 1), (0, 1)])), 5)
        self.assertEqual(len(self.check(terms, [(4, 0), (5, 1), (2, 3)])), 5)

    def test_sixty_terms_and_two_hundred_pairs(self):
        chance = random.Random(12)
        for count in range(10):
            terms = random_terms(chance, 60)
            self.check(terms, random_pairs(chance, 200, 60))
            self.check(terms, random_pairs(chance, 12, 60))
        many = [(str(number), ()) for number in range(60)]
        self.assertEqual(len(self.check(many, [(0, 1)] * 200)), 1)
        self.assertEqual(len(self.check(many, [(number, number + 1) for number in range(59)])), 59)

    def test_many_by_chance(self):
        chance = random.Random(11)
        for count in range(300):
            size = chance.randrange(1, 16)
            terms = random_terms(chance, size, "abf")
            self.check(terms, random_pairs(chance, chance.randrange(6), size))

    def test_the_same_again_and_the_askers_own(self):
        terms = chain(5)
        given = [(0, 3), (0, 5)]
        told = links(terms, given)
        kept = list(told)
        self.assertEqual(links(terms, given), kept)
        told.clear()
        given.append((1, 2))
        terms.append(("g", (0,)))
        self.assertEqual(links(chain(5), [(0, 3), (0, 5)]), kept)
        first = links(terms, given)
        kept = list(first)
        given.clear()
        terms.clear()
        self.assertEqual(first, kept)


class Joined(unittest.TestCase):
    def test_a_term_with_itself(self):
        self.assertIs(joined([], 0, 0), True)
        self.assertIs(joined([], 7, 7), True)
        self.assertIs(joined([(0, 1, 0)], 5, 5), True)

    def test_without_links(self):
        self.assertIs(joined([], 0, 1), False)

    def test_one_link_either_way(self):
        for how in (-1, 0, 1, 17, -5):
            self.assertIs(joined([(3, 1, how)], 1, 3), True)
            self.assertIs(joined([(3, 1, how)], 3, 1), True)
            self.assertIs(joined([(3, 1, how)], 3, 2), False)

    def test_what_hangs_together(self):
        told = [(4, 2, 0), (9, 7, -1), (2, 0, 3), (7, 8, 5), (1, 1, 0)]
        for group in ((0, 2, 4), (7, 8, 9)):
            for one in group:
                for other in range(11):
                    self.assertIs(joined(told, one, other), other in group)
                    self.assertIs(joined(told, other, one), other in group)

    def test_groups_that_come_together_late(self):
        told = [(0, 1, 0), (2, 3, 0), (4, 5, 0), (1, 4, 0), (5, 2, 0)]
        for one in range(6):
            for other in range(6):
                self.assertIs(joined(told, one, other), True)
        self.assertIs(joined(told[:3], 0, 5), False)
        self.assertIs(joined(told[:4], 0, 5), True)
        self.assertIs(joined(told[:4], 0, 3), False)

    def test_links_told_twice(self):
        told = [(0, 1, 0), (0, 1, 0), (1, 0, -1), (1, 1, 2)]
        self.assertIs(joined(told, 0, 1), True)
        self.assertIs(joined(told, 0, 2), False)

    def test_functions_join_nothing_by_themselves(self):
        # Only links join: joined knows of no terms.
        self.assertIs(joined([(0, 1, 0)], 2, 3), False)

    def test_the_links_stay(self):
        told = [(0, 1, 0), (2, 1, -1)]
        joined(told, 0, 2)
        heads(4, told)
        self.assertEqual(told, [(0, 1, 0), (2, 1, -1)])


class Heads(unittest.TestCase):
    def test_without_links(self):
        self.assertEqual(heads(0, []), [])
        self.assertEqual(heads(1, []), [0])
        self.assertEqual(heads(4, []), [0, 1, 2, 3])

    def test_the_least_of_each_class(self):
        self.assertEqual(heads(4, [(3, 2, 0)]), [0, 1, 2, 2])
        self.assertEqual(heads(4, [(3, 2, 0), (2, 1, -1)]), [0, 1, 1, 1])
        self.assertEqual(heads(6, [(5, 4, 0), (3, 2, 0), (4, 2, 1), (1, 5, 7)]), [0, 1, 1, 1, 1, 1])
        self.assertEqual(heads(5, [(4, 0, 0), (3, 1, 0)]), [0, 1, 2, 1, 0])

    def test_links_told_twice_and_of_a_term_with_itself(self):
        told = [(2, 1, 0), (1, 2, 0), (2, 1, 0), (3, 3, -1), (0, 0, 5)]
        self.assertEqual(heads(4, told), [0, 1, 1, 3])

    def test_links_by_chance(self):
        chance = random.Random(13)
        for count in range(300):
            many = chance.randrange(1, 14)
            pairs = random_pairs(chance, chance.randrange(12), many)
            told = [(one, other, chance.randrange(-2, 4)) for one, other in pairs]
            found = components(pairs, many)
            self.assertEqual(heads(many, told), found)
            one, other = random_pairs(chance, 1, many)[0]
            self.assertIs(joined(told, one, other), found[one] == found[other])

    def test_what_was_told_stays(self):
        told = [(0, 1, 0)]
        first = heads(3, told)
        told.append((1, 2, 0))
        self.assertEqual(first, [0, 0, 2])
        second = heads(3, told)
        self.assertEqual(second, [0, 0, 0])
        second.append(9)
        self.assertEqual(heads(3, told), [0, 0, 0])
        self.assertEqual(first, [0, 0, 2])


if __name__ == "__main__":
    unittest.main()
