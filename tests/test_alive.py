import unittest

from tests.helper import HIGHEST, LOWEST, alive, ask, ask_last, links_of, possible_pairs, told, web

EXAMPLE = web(4, [0, 1, 1, 0, 2, 1, 1, 3, 1, 2, 3, 3, 3, 4, 5])


class Alive(unittest.TestCase):
    def test_before_the_first_call(self):
        self.assertEqual(ask(alive([]), alive([1])), [[1, 1], [0]])

    def test_example(self):
        self.assertEqual(ask_last(EXAMPLE, alive([3])), [2, 1, 2])

    def test_none_gone(self):
        self.assertEqual(ask_last(EXAMPLE, alive([])), [4, 1, 2, 3, 4])

    def test_another_way_stays(self):
        self.assertEqual(ask(EXAMPLE, alive([1]), alive([1, 2]), alive([4])),
                         [[0], [3, 2, 3, 4], [0], [3, 1, 2, 3]])

    def test_gone_is_only_for_the_one_call(self):
        self.assertEqual(ask(EXAMPLE, alive([3]), alive([]))[2], [4, 1, 2, 3, 4])

    def test_a_kind_twice_and_not_going_up(self):
        self.assertEqual(ask(EXAMPLE, alive([3, 3]), alive([3, 1, 3]), alive([4, 2, 4, 2])),
                         [[0], [2, 1, 2], [1, 2], [2, 1, 3]])

    def test_ten_kinds(self):
        full = web(10, links_of(possible_pairs(10)))
        every = list(range(1, 11))
        self.assertEqual(ask(full, alive(every), alive([7] * 10), alive(every[:9])),
                         [[0], [0], [9, 1, 2, 3, 4, 5, 6, 8, 9, 10], [1, 10]])

    def test_ten_numbers_on_a_small_web(self):
        self.assertEqual(ask(EXAMPLE, alive([1, 2] * 5), alive([4] * 10)), [[0], [0], [3, 1, 2, 3]])

    def test_without_links(self):
        self.assertEqual(ask(web(1, []), alive([]), web(10, []), alive([]), alive([5])),
                         [[0], [0], [0], [0], [0]])

    def test_ring_without_sun(self):
        self.assertEqual(ask_last(web(4, [0, 4, 1, 1, 2, 1, 2, 3, 1, 3, 1, 1]), alive([])), [1, 4])

    def test_ring_with_sun(self):
        ring = web(4, [0, 2, 1, 1, 2, 1, 2, 3, 1, 3, 4, 1, 4, 1, 1])
        self.assertEqual(ask(ring, alive([]), alive([4]), alive([1]), alive([2])),
                         [[0], [4, 1, 2, 3, 4], [2, 2, 3], [3, 2, 3, 4], [0]])

    def test_a_link_goes_one_way(self):
        self.assertEqual(ask_last(web(2, [0, 1, 1, 2, 1, 1]), alive([])), [1, 1])

    def test_long_row_told_backward(self):
        row = [0, 10, 1]
        for kind in range(10, 1, -1):
            row += [kind, kind - 1, 1]
        self.assertEqual(ask(web(10, row), alive([]), alive([5]))[1:],
                         [[10] + list(range(1, 11)), [5, 6, 7, 8, 9, 10]])


class AliveRefused(unittest.TestCase):
    def test_kind_out_of_range(self):
        for kind in (0, 5, -1, LOWEST, HIGHEST):
            for kinds in ([kind], [1, kind], [kind, 1], [2] * 9 + [kind]):
                given = ask(EXAMPLE, told(), alive(kinds), told(), alive([]))
                self.assertEqual(given[2], [-1])
                self.assertEqual(given[1], given[3])
                self.assertEqual(given[4], [4, 1, 2, 3, 4])

    def test_range_goes_by_n(self):
        self.assertEqual(ask(alive([2]), web(2, []), alive([2]), alive([3])), [[-1], [0], [0], [-1]])
        self.assertEqual(ask(web(10, []), alive([10]), alive([11])), [[0], [0], [-1]])

    def test_more_than_ten(self):
        for length in (11, 12, 300, 310):
            self.assertEqual(ask(EXAMPLE, alive([1] * length), alive([])),
                             [[0], [-1], [4, 1, 2, 3, 4]])


if __name__ == "__main__":
    unittest.main()
