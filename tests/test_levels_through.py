import unittest

from tests.helper import HIGHEST, LOWEST, alive, ask, ask_last, fits_levels, fits_through, levels, links_of
from tests.helper import possible_pairs, remove, scattered_numbers, through, told, web, weight

EXAMPLE = web(4, [0, 1, 1, 0, 2, 1, 1, 3, 1, 2, 3, 3, 3, 4, 5])
RING = web(2, [0, 1, 1, 1, 2, 1, 2, 1, 1])
# 1, 2 and 3 feed one another and are not fed by the sun; 4 is.
DEAD_RING = web(4, [0, 4, 1, 1, 2, 1, 2, 3, 1, 3, 1, 1])
NO_FOODS = web(3, [0, 1, 1, 1, 2, 1])


def scattered_web(n, one_of, most, seed):
    """The weights of a web of which all kinds live: a row from the sun, and one of so many other links."""
    pairs = possible_pairs(n)
    numbers = scattered_numbers(2 * len(pairs), seed)
    weights = {}
    for place, (food, eater) in enumerate(pairs):
        if food + 1 == eater or numbers[2 * place] % one_of == 0:
            weights[(food, eater)] = numbers[2 * place + 1] % most + 1
    return weights


def line_of(n, weights):
    return web(n, [number for (food, eater), w in weights.items() for number in (food, eater, w)])


class Levels(unittest.TestCase):
    def test_before_the_first_call(self):
        self.assertEqual(ask(levels()), [[1, 1, 1]])

    def test_example(self):
        self.assertEqual(ask_last(EXAMPLE, levels()), [4, 1, 1, 1, 1, 2, 1, 3, 1])

    def test_the_sun_s_share_counts(self):
        self.assertEqual(ask_last(web(2, [0, 1, 1, 0, 2, 1, 1, 2, 3]), levels()), [2, 1, 1, 7, 4])

    def test_one_kind_of_the_greatest_weight(self):
        self.assertEqual(ask_last(web(1, [0, 1, 1000]), levels()), [1, 1, 1])

    def test_row_of_ten(self):
        row = [0, 1, 7] + [number for k in range(1, 10) for number in (k, k + 1, k)]
        self.assertEqual(ask_last(web(10, row), levels()),
                         [10] + [number for k in range(1, 11) for number in (k, 1)])

    def test_ring(self):
        self.assertEqual(ask_last(RING, levels()), [2, 3, 1, 4, 1])

    def test_ring_with_great_weights(self):
        self.assertEqual(ask_last(web(2, [0, 1, 7, 2, 1, 1000, 1, 2, 1000]), levels()), [2, 2007, 7, 2014, 7])

    def test_all_links_of_ten_kinds(self):
        self.assertEqual(ask_last(web(10, links_of(possible_pairs(10))), levels()), [10] + [10, 1] * 10)
        heavy = [number for food, eater in possible_pairs(10) for number in (food, eater, 1000 if food else 1)]
        self.assertEqual(ask_last(web(10, heavy), levels()), [10] + [9001, 1] * 10)

    def test_lowest_terms(self):
        self.assertEqual(ask_last(web(2, [0, 1, 6, 0, 2, 40, 1, 2, 60]), levels()), [2, 1, 1, 8, 5])

    def test_a_kind_that_is_told_before_its_food(self):
        self.assertEqual(ask_last(web(3, [0, 3, 2, 3, 2, 5, 2, 1, 1, 3, 1, 2]), levels()), [3, 7, 3, 2, 1, 1, 1])

    def test_it_changes_nothing(self):
        given = ask(RING, told(), levels(), told(), levels())
        self.assertEqual(given[1], given[3])
        self.assertEqual(given[2], given[4])


class Through(unittest.TestCase):
    def test_before_the_first_call(self):
        self.assertEqual(ask(through(1)), [[1, 1, 1]])

    def test_example(self):
        self.assertEqual(ask_last(EXAMPLE, through(1)), [4, 1, 1, 0, 1, 1, 4, 1, 4])
        self.assertEqual(ask(EXAMPLE, through(2), through(3), through(4))[1:],
                         [[4, 0, 1, 1, 1, 3, 4, 3, 4], [4, 0, 1, 0, 1, 1, 1, 1, 1], [4, 0, 1, 0, 1, 0, 1, 1, 1]])

    def test_the_sun_s_share_counts(self):
        self.assertEqual(ask(web(2, [0, 1, 1, 0, 2, 1, 1, 2, 3]), through(1), through(2))[1:],
                         [[2, 1, 1, 3, 4], [2, 0, 1, 1, 1]])

    def test_a_kind_on_a_ring_is_1_itself(self):
        self.assertEqual(ask(RING, through(1), through(2))[1:], [[2, 1, 1, 1, 1], [2, 1, 2, 1, 1]])

    def test_a_kind_that_eats_of_several_rings_is_1_itself(self):
        links = links_of([(0, 1), (1, 2), (2, 1), (2, 3), (3, 2), (3, 1), (1, 3)])
        self.assertEqual(ask(web(3, links), through(1), through(2), through(3))[1:],
                         [[3, 1, 1, 1, 1, 1, 1], [3, 3, 5, 1, 1, 4, 5], [3, 3, 5, 4, 5, 1, 1]])

    def test_all_links_of_ten_kinds(self):
        full = web(10, links_of(possible_pairs(10)))
        for j in range(1, 11):
            want = [(1, 1) if k == j else (1, 2) for k in range(1, 11)]
            self.assertEqual(ask_last(full, through(j)), [10] + [number for pair in want for number in pair])

    def test_row_of_ten(self):
        row = [0, 1, 7] + [number for k in range(1, 10) for number in (k, k + 1, k)]
        for j in (1, 5, 10):
            self.assertEqual(ask_last(web(10, row), through(j)), [10] + [0, 1] * (j - 1) + [1, 1] * (11 - j))

    def test_it_changes_nothing(self):
        given = ask(RING, told(), through(2), told(), through(2))
        self.assertEqual(given[1], given[3])
        self.assertEqual(given[2], given[4])


class Equations(unittest.TestCase):
    def check(self, n, weights):
        given = ask(line_of(n, weights), alive([]), levels(), *[through(j) for j in range(1, n + 1)])
        self.assertEqual(given[1], [n] + list(range(1, n + 1)))
        self.assertTrue(fits_levels(n, weights, given[2]), (weights, given[2]))
        for j in range(1, n + 1):
            self.assertTrue(fits_through(n, weights, j, given[2 + j]), (weights, j, given[2 + j]))

    def test_rings(self):
        for n in range(2, 11):
            ring = {(k, k + 1): 1000 - k for k in range(1, n)}
            self.check(n, {**ring, (n, 1): 997, (0, 1): 3})
            self.check(n, {**ring, (n, 1): 1000, (0, n): 1})

    def test_rings_hung_on_rings(self):
        weights = {(0, 4): 1, (4, 1): 999, (1, 4): 1000, (1, 2): 7, (2, 3): 1000, (3, 2): 1, (3, 1): 501,
                   (5, 6): 1000, (6, 5): 1000, (3, 5): 1}
        self.check(6, weights)

    def test_scattered_webs_of_every_size(self):
        for n in range(1, 11):
            for one_of in (1, 2, 4, 8):
                for most in (1, 6, 1000):
                    self.check(n, scattered_web(n, one_of, most, 100 * n + 10 * one_of + most))

    def test_the_greatest_weights_but_from_the_sun(self):
        for n in (2, 5, 10):
            weights = {pair: 1000 for pair in possible_pairs(n) if pair[0] != 0}
            self.check(n, {**weights, (0, 1): 1})
            self.check(n, {**weights, (0, n): 1})


class Refused(unittest.TestCase):
    def test_not_all_live(self):
        for line in (DEAD_RING, NO_FOODS, web(1, []), web(10, []), web(2, [0, 1, 1, 2, 1, 1])):
            given = ask(line, told(), levels(), through(1), told())
            self.assertEqual(given[2:4], [[-7], [-7]])
            self.assertEqual(given[1], given[4])

    def test_through_a_kind_that_lives_while_another_does_not(self):
        self.assertEqual(ask(DEAD_RING, through(4), through(1)), [[0], [-7], [-7]])
        self.assertEqual(ask(NO_FOODS, through(1), through(3)), [[0], [-7], [-7]])

    def test_out_of_range(self):
        for j in (0, 5, -1, LOWEST, HIGHEST):
            given = ask(EXAMPLE, told(), through(j), told(), levels())
            self.assertEqual(given[2], [-1])
            self.assertEqual(given[1], given[3])
            self.assertEqual(given[4], [4, 1, 1, 1, 1, 2, 1, 3, 1])

    def test_out_of_range_goes_ahead(self):
        for j in (0, 5, LOWEST, HIGHEST):
            self.assertEqual(ask_last(DEAD_RING, through(j)), [-1])

    def test_range_goes_by_n(self):
        self.assertEqual(ask(through(0), through(2), web(2, [0, 1, 1, 0, 2, 1]), through(2), through(3)),
                         [[-1], [-1], [0], [2, 0, 1, 1, 1], [-1]])
        full = web(10, links_of(possible_pairs(10)))
        self.assertEqual(ask_last(full, through(11)), [-1])
        self.assertEqual(ask(full, remove(1), through(9), through(10))[2:],
                         [[9] + [1, 2] * 8 + [1, 1], [-1]])


class BetweenOthers(unittest.TestCase):
    def test_web_remove_and_weight_between(self):
        given = ask(levels(), EXAMPLE, levels(), weight(0, 3, 4), levels(), through(2), weight(3, 4, 0), levels(),
                    through(3), remove(4), levels(), remove(1), levels(), through(1), RING, levels())
        self.assertEqual(given, [[1, 1, 1], [0], [4, 1, 1, 1, 1, 2, 1, 3, 1],
                                 [0], [4, 1, 1, 1, 1, 3, 2, 5, 2], [4, 0, 1, 1, 1, 3, 8, 3, 8],
                                 [1], [-7], [-7],
                                 [3], [3, 1, 1, 1, 1, 3, 2],
                                 [2], [2, 1, 1, 10, 7], [2, 1, 1, 3, 7],
                                 [0], [2, 3, 1, 4, 1]])

    def test_a_weight_that_closes_a_ring(self):
        self.assertEqual(ask(web(2, [0, 1, 1, 1, 2, 1]), levels(), weight(2, 1, 1), levels(), weight(2, 1, 3), levels()),
                         [[0], [2, 1, 1, 2, 1], [0], [2, 3, 1, 4, 1], [1], [2, 7, 1, 8, 1]])


if __name__ == "__main__":
    unittest.main()
