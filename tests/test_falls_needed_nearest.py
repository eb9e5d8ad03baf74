import unittest

from tests.helper import HIGHEST, LOWEST, ask, ask_last, falls, links_of, needed, nearest
from tests.helper import possible_pairs, told, web

EXAMPLE = web(4, [0, 1, 1, 0, 2, 1, 1, 3, 1, 2, 3, 3, 3, 4, 5])
# The kinds stand in a row from the sun, and not by their numbers.
ROW = web(5, [0, 4, 1, 4, 2, 1, 2, 5, 1, 5, 1, 1, 1, 3, 1])
# 1 is behind 5, from which two ways go apart and come together again at 2.
DIAMOND = web(6, [0, 5, 1, 5, 3, 1, 5, 4, 1, 3, 2, 1, 4, 2, 1, 2, 1, 1, 6, 2, 1])
# 1, 2 and 3 feed one another and are not fed by the sun; 4 is.
DEAD_RING = web(5, [0, 4, 1, 1, 2, 1, 2, 3, 1, 3, 1, 1, 1, 4, 1])


class Falls(unittest.TestCase):
    def test_before_the_first_call(self):
        self.assertEqual(ask(falls(1), needed(1), nearest(1)), [[1, 1], [0], [0]])

    def test_example(self):
        self.assertEqual(ask_last(EXAMPLE, falls(3)), [2, 3, 4])
        self.assertEqual(ask(EXAMPLE, falls(1), falls(2), falls(4))[1:], [[1, 1], [1, 2], [1, 4]])

    def test_row(self):
        self.assertEqual(ask(ROW, falls(4), falls(2), falls(5), falls(1), falls(3))[1:],
                         [[5, 1, 2, 3, 4, 5], [4, 1, 2, 3, 5], [3, 1, 3, 5], [2, 1, 3], [1, 3]])

    def test_diamond(self):
        self.assertEqual(ask(DIAMOND, falls(5), falls(3), falls(2))[1:],
                         [[5, 1, 2, 3, 4, 5], [1, 3], [2, 1, 2]])

    def test_a_kind_that_does_not_live(self):
        self.assertEqual(ask(DEAD_RING, falls(1), falls(5), falls(4))[1:], [[0], [0], [1, 4]])
        self.assertEqual(ask(DIAMOND, falls(6))[1:], [[0]])
        self.assertEqual(ask(web(1, []), falls(1)), [[0], [0]])

    def test_ring_behind_a_kind(self):
        ring = web(4, [0, 4, 1, 4, 1, 1, 1, 2, 1, 2, 3, 1, 3, 1, 1])
        self.assertEqual(ask(ring, falls(4), falls(1), falls(3))[1:],
                         [[4, 1, 2, 3, 4], [3, 1, 2, 3], [1, 3]])

    def test_ten_kinds(self):
        row = [0, 1, 1] + [number for k in range(1, 10) for number in (k, k + 1, 1)]
        self.assertEqual(ask(web(10, row), falls(1), falls(10))[1:], [[10] + list(range(1, 11)), [1, 10]])


class Needed(unittest.TestCase):
    def test_example_web(self):
        self.assertEqual(ask(EXAMPLE, needed(1), needed(2), needed(3), needed(4))[1:], [[0], [0], [0], [1, 3]])

    def test_row_is_told_going_up(self):
        self.assertEqual(ask(ROW, needed(4), needed(2), needed(5), needed(1), needed(3))[1:],
                         [[0], [1, 4], [2, 2, 4], [3, 2, 4, 5], [4, 1, 2, 4, 5]])

    def test_diamond(self):
        self.assertEqual(ask(DIAMOND, needed(1), needed(2), needed(3))[1:], [[2, 2, 5], [1, 5], [1, 5]])

    def test_does_not_live(self):
        given = ask(DEAD_RING, told(), needed(1), needed(5), needed(4), told())
        self.assertEqual(given[2:5], [[-5], [-5], [0]])
        self.assertEqual(given[1], given[5])
        self.assertEqual(ask(web(1, []), needed(1)), [[0], [-5]])

    def test_ten_kinds(self):
        row = [0, 10, 1] + [number for k in range(10, 1, -1) for number in (k, k - 1, 1)]
        self.assertEqual(ask(web(10, row), needed(1), needed(10))[1:], [[9] + list(range(2, 11)), [0]])


class Nearest(unittest.TestCase):
    def test_example(self):
        self.assertEqual(ask_last(EXAMPLE, nearest(4)), [3])

    def test_needs_none(self):
        self.assertEqual(ask(EXAMPLE, nearest(1), nearest(2), nearest(3))[1:], [[0], [0], [0]])

    def test_row(self):
        self.assertEqual(ask(ROW, nearest(4), nearest(2), nearest(5), nearest(1), nearest(3))[1:],
                         [[0], [4], [2], [5], [1]])

    def test_diamond(self):
        self.assertEqual(ask(DIAMOND, nearest(1), nearest(2), nearest(3), nearest(4))[1:],
                         [[2], [5], [5], [5]])

    def test_nearest_is_not_always_a_food(self):
        self.assertEqual(ask(DIAMOND, nearest(2))[1:], [[5]])

    def test_does_not_live(self):
        given = ask(DIAMOND, told(), nearest(6), told())
        self.assertEqual(given[2], [-5])
        self.assertEqual(given[1], given[3])
        self.assertEqual(ask(DEAD_RING, nearest(2), nearest(4))[1:], [[-5], [0]])

    def test_full_web(self):
        full = web(10, links_of(possible_pairs(10)))
        self.assertEqual(ask(full, nearest(10), needed(10), falls(10))[1:], [[0], [0], [1, 10]])


class Refused(unittest.TestCase):
    def test_out_of_range(self):
        for call in (falls, needed, nearest):
            for k in (0, 7, -1, LOWEST, HIGHEST):
                given = ask(DIAMOND, told(), call(k), told())
                self.assertEqual(given[2], [-1])
                self.assertEqual(given[1], given[3])
            for k in (1, 5):
                self.assertNotEqual(ask_last(DIAMOND, call(k)), [-1])

    def test_range_goes_by_n(self):
        for call in (falls, needed, nearest):
            self.assertEqual(ask(call(2), web(10, []), call(11), web(1, []), call(0), call(2)),
                             [[-1], [0], [-1], [0], [-1], [-1]])
        self.assertEqual(ask(web(10, []), falls(10), needed(10), nearest(10)), [[0], [0], [-5], [-5]])


if __name__ == "__main__":
    unittest.main()
