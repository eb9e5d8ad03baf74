import unittest

from tests.helper import HIGHEST, LOWEST, alive, ask, ask_last, falls, links_of, needed, possible_pairs, remove, told
from tests.helper import web, weight

LINKS = [0, 1, 1, 0, 2, 2, 1, 3, 3, 2, 3, 4, 3, 4, 5, 4, 1, 6]
OWN = web(4, LINKS)
FIRST = [1, 1, 0, 1, 1]


class Remove(unittest.TestCase):
    def test_the_first(self):
        self.assertEqual(ask(OWN, remove(1), told(), alive([])),
                         [[0], [3], [3, 3, 0, 1, 2, 1, 2, 4, 2, 3, 5], [3, 1, 2, 3]])

    def test_a_middle_one(self):
        self.assertEqual(ask(OWN, remove(2), told(), alive([])),
                         [[0], [3], [3, 4, 0, 1, 1, 1, 2, 3, 2, 3, 5, 3, 1, 6], [3, 1, 2, 3]])
        self.assertEqual(ask(OWN, remove(3), told(), alive([])),
                         [[0], [3], [3, 3, 0, 1, 1, 0, 2, 2, 3, 1, 6], [2, 1, 2]])

    def test_the_last(self):
        self.assertEqual(ask(OWN, remove(4), told(), alive([])),
                         [[0], [3], [3, 4, 0, 1, 1, 0, 2, 2, 1, 3, 3, 2, 3, 4], [3, 1, 2, 3]])

    def test_ten_kinds_with_all_links(self):
        weights = {pair: 31 * pair[0] + pair[1] for pair in possible_pairs(10)}
        links = [number for pair in weights for number in (*pair, weights[pair])]
        for k in range(1, 11):
            left = [kind for kind in range(11) if kind != k]
            want = [9, 81]
            for food, eater in possible_pairs(9):
                want += [food, eater, weights[(left[food], left[eater])]]
            self.assertEqual(ask(web(10, links), remove(k), told(), alive([])),
                             [[0], [9], want, [9] + list(range(1, 10))])

    def test_a_kind_without_links(self):
        self.assertEqual(ask(web(3, [0, 1, 7, 1, 3, 8]), remove(2), told()), [[0], [2], [2, 2, 0, 1, 7, 1, 2, 8]])
        self.assertEqual(ask(web(10, []), remove(10), told()), [[0], [9], [9, 0]])

    def test_again_and_again(self):
        given = ask(OWN, remove(1), remove(1), told(), remove(1), told(), remove(1), told())
        self.assertEqual(given, [[0], [3], [2], [2, 1, 1, 2, 5], [1], [1, 0], [-8], [1, 0]])

    def test_the_range_is_the_new_one(self):
        self.assertEqual(ask(OWN, alive([4]), remove(2), alive([4]), falls(4), falls(3), remove(4)),
                         [[0], [3, 1, 2, 3], [3], [-1], [-1], [1, 3], [-1]])

    def test_a_web_behind_it(self):
        self.assertEqual(ask(OWN, remove(1), OWN, told()), [[0], [3], [0], [4, 6] + LINKS])


class RemoveRefused(unittest.TestCase):
    def test_out_of_range(self):
        for k in (0, 5, -1, LOWEST, HIGHEST):
            self.assertEqual(ask(OWN, remove(k), told()), [[0], [-1], [4, 6] + LINKS])

    def test_the_last_kind(self):
        self.assertEqual(ask(remove(1), told(), alive([])), [[-8], FIRST, [1, 1]])
        self.assertEqual(ask(web(1, []), remove(1), told()), [[0], [-8], [1, 0]])

    def test_out_of_range_goes_ahead(self):
        for k in (0, 2, -1, LOWEST, HIGHEST):
            self.assertEqual(ask(remove(k), told()), [[-1], FIRST])

    def test_two_kinds_can_lose_one(self):
        self.assertEqual(ask(web(2, [0, 1, 4, 1, 2, 5]), remove(1), told(), remove(1)), [[0], [1], [1, 0], [-8]])
        self.assertEqual(ask(web(2, [0, 1, 4, 1, 2, 5]), remove(2), told()), [[0], [1], [1, 1, 0, 1, 4]])

    def test_range_goes_by_n(self):
        self.assertEqual(ask(web(10, []), remove(11), remove(10), remove(10)), [[0], [-1], [9], [-1]])


class Weight(unittest.TestCase):
    def test_makes_a_link(self):
        self.assertEqual(ask(OWN, weight(2, 1, 9), told()),
                         [[0], [0], [4, 7, 0, 1, 1, 0, 2, 2, 1, 3, 3, 2, 1, 9, 2, 3, 4, 3, 4, 5, 4, 1, 6]])

    def test_makes_a_link_from_the_sun(self):
        self.assertEqual(ask(web(2, []), weight(0, 2, 1000), told(), alive([])),
                         [[0], [0], [2, 1, 0, 2, 1000], [1, 2]])

    def test_changes_one(self):
        self.assertEqual(ask(OWN, weight(1, 3, 1000), told()),
                         [[0], [1], [4, 6, 0, 1, 1, 0, 2, 2, 1, 3, 1000, 2, 3, 4, 3, 4, 5, 4, 1, 6]])

    def test_leaves_one_as_it_is(self):
        self.assertEqual(ask(OWN, weight(1, 3, 3), told()), [[0], [1], [4, 6] + LINKS])

    def test_takes_one_out(self):
        self.assertEqual(ask(OWN, weight(3, 4, 0), told(), alive([])),
                         [[0], [1], [4, 5, 0, 1, 1, 0, 2, 2, 1, 3, 3, 2, 3, 4, 4, 1, 6], [3, 1, 2, 3]])

    def test_takes_out_one_that_is_not_there(self):
        self.assertEqual(ask(OWN, weight(4, 3, 0), told()), [[0], [0], [4, 6] + LINKS])

    def test_one_way_and_the_other_are_two_links(self):
        self.assertEqual(ask(web(2, [1, 2, 3]), weight(2, 1, 4), weight(1, 2, 0), told()),
                         [[0], [0], [1], [2, 1, 2, 1, 4]])

    def test_in_and_out_again(self):
        self.assertEqual(ask(weight(0, 1, 0), alive([]), weight(0, 1, 0), weight(0, 1, 5), weight(0, 1, 6), told()),
                         [[1], [0], [0], [0], [1], [1, 1, 0, 1, 6]])

    def test_all_links_of_ten_kinds(self):
        pairs = possible_pairs(10)
        calls = [weight(food, eater, 10 * food + eater) for food, eater in reversed(pairs)]
        given = ask(web(10, []), *calls, told(), *[weight(food, eater, 0) for food, eater in pairs], told())
        links = [number for food, eater in pairs for number in (food, eater, 10 * food + eater)]
        self.assertEqual(given, [[0]] + [[0]] * 100 + [[10, 100] + links] + [[1]] * 100 + [[10, 0]])

    def test_what_lives_follows(self):
        given = ask(OWN, needed(4), weight(0, 4, 1), needed(4), weight(0, 4, 0), weight(1, 3, 0), needed(4), falls(2))
        self.assertEqual(given, [[0], [1, 3], [0], [0], [1], [1], [2, 2, 3], [3, 2, 3, 4]])

    def test_remove_and_web_between(self):
        given = ask(OWN, weight(4, 2, 8), remove(3), told(), weight(3, 2, 0), weight(2, 3, 1), told(),
                    web(2, [0, 1, 1]), weight(1, 2, 7), told())
        self.assertEqual(given, [[0], [0], [3], [3, 4, 0, 1, 1, 0, 2, 2, 3, 1, 6, 3, 2, 8], [1], [0],
                                 [3, 4, 0, 1, 1, 0, 2, 2, 2, 3, 1, 3, 1, 6], [0], [0], [2, 2, 0, 1, 1, 1, 2, 7]])


class WeightRefused(unittest.TestCase):
    def refused(self, f, e, w, number):
        self.assertEqual(ask(OWN, weight(f, e, w), told(), alive([])),
                         [[0], [number], [4, 6] + LINKS, [4, 1, 2, 3, 4]], (f, e, w))

    def test_food(self):
        for f in (-1, 5, LOWEST, HIGHEST):
            for w in (0, 1, 1000):
                self.refused(f, 1, w, -1)

    def test_eater(self):
        for e in (0, -1, 5, LOWEST, HIGHEST):
            for w in (0, 1, 1000):
                self.refused(1, e, w, -1)

    def test_weight(self):
        for w in (-1, 1001, LOWEST, HIGHEST):
            self.refused(0, 1, w, -1)
            self.refused(4, 3, w, -1)

    def test_the_edges_are_taken(self):
        self.assertEqual(ask(OWN, weight(0, 4, 1), weight(4, 3, 1000), weight(1, 4, 0))[1:], [[0], [0], [0]])

    def test_food_and_eater_alike(self):
        for k in (1, 2, 3, 4):
            for w in (0, 1, 1000):
                self.refused(k, k, w, -9)
        self.assertEqual(ask(weight(1, 1, 1), told()), [[-9], FIRST])

    def test_out_of_range_goes_ahead(self):
        for k in (0, -1, 5, LOWEST, HIGHEST):
            self.refused(k, k, 1, -1)
            self.refused(k, k, 0, -1)
        for w in (-1, 1001, LOWEST, HIGHEST):
            self.refused(2, 2, w, -1)

    def test_range_goes_by_n(self):
        self.assertEqual(ask(weight(2, 1, 1), weight(1, 2, 1), web(10, links_of([(0, 1)])), weight(10, 9, 1),
                             weight(11, 9, 1), weight(9, 11, 1), remove(2), weight(10, 8, 1), weight(9, 8, 0)),
                         [[-1], [-1], [0], [0], [-1], [-1], [9], [-1], [1]])

    def test_alone(self):
        self.assertEqual(ask_last(weight(0, 1, 1000)), [1])


if __name__ == "__main__":
    unittest.main()
