import unittest

from tests.helper import HIGHEST, LOWEST, ask, ask_last, least, links_of, possible_pairs, told, ways, web

EXAMPLE = web(4, [0, 1, 1, 0, 2, 1, 1, 3, 1, 2, 3, 3, 3, 4, 5])


class Least(unittest.TestCase):
    def test_example(self):
        self.assertEqual(ask(EXAMPLE, least(3), least(4))[1:], [[2, 1, 2], [1, 3]])

    def test_first_of_several_smallest(self):
        row = [0, 4, 1, 4, 2, 1, 2, 5, 1, 5, 1, 1, 1, 3, 1]
        self.assertEqual(ask(web(5, row), least(2), least(5), least(1), least(3))[1:],
                         [[1, 4], [1, 2], [1, 2], [1, 1]])

    def test_first_in_the_order_of_lists_of_two(self):
        # Two rows of two kinds: 4 then 1, and 2 then 3; each has to be cut.
        links = links_of([(0, 4), (4, 1), (1, 5), (0, 2), (2, 3), (3, 5)])
        self.assertEqual(ask_last(web(5, links), least(5)), [2, 1, 2])

    def test_the_lesser_number_at_the_first_place_decides(self):
        # 1 2 doesn't bring 6 down, nor 1 3; 1 4 does, and so does 2 3.
        links = links_of([(0, 1), (0, 4), (1, 2), (1, 3), (4, 2), (4, 3), (2, 6), (3, 6)])
        self.assertEqual(ask_last(web(6, links), least(6)), [2, 1, 4])

    def test_a_smaller_set_goes_ahead_of_an_earlier_one(self):
        links = links_of([(0, 1), (0, 2), (1, 5), (2, 5), (5, 3), (0, 4)])
        self.assertEqual(ask_last(web(5, links), least(3)), [1, 5])

    def test_kinds_that_do_not_live_are_not_needed(self):
        links = links_of([(1, 5), (2, 5), (1, 2), (2, 1), (0, 3), (0, 4), (3, 5), (4, 5)])
        self.assertEqual(ask_last(web(5, links), least(5)), [2, 3, 4])

    def test_ring(self):
        links = links_of([(0, 3), (3, 1), (1, 2), (2, 3), (2, 4), (4, 1)])
        self.assertEqual(ask(web(4, links), least(1), least(2), least(4))[1:], [[1, 3], [1, 1], [1, 1]])

    def test_nine_kinds(self):
        links = links_of([(0, j) for j in range(2, 11)] + [(j, 1) for j in range(2, 11)])
        self.assertEqual(ask(web(10, links), least(1), ways(1))[1:], [[9] + list(range(2, 11)), [9]])

    def test_all_links_but_the_sun_s(self):
        pairs = [pair for pair in possible_pairs(10) if pair != (0, 10)]
        self.assertEqual(ask(web(10, links_of(pairs)), least(10), ways(10), least(9))[1:],
                         [[9] + list(range(1, 10)), [9], [-6]])

    def test_two_kinds(self):
        self.assertEqual(ask(web(2, [0, 2, 1, 2, 1, 1]), least(1), ways(1))[1:], [[1, 2], [1]])


class Ways(unittest.TestCase):
    def test_example(self):
        self.assertEqual(ask(EXAMPLE, ways(3), ways(4))[1:], [[2], [1]])

    def test_weights_do_not_count(self):
        self.assertEqual(ask(web(3, [0, 1, 1000, 1, 2, 1000, 2, 3, 1000]), ways(3))[1:], [[1]])

    def test_ways_that_have_to_be_chosen_well(self):
        # 1 2 5 alone shuts both others out; 1 4 and 3 2 are separate.
        links = links_of([(0, 1), (1, 2), (2, 5), (0, 3), (3, 2), (1, 4), (4, 5)])
        self.assertEqual(ask_last(web(5, links), ways(5)), [2])

    def test_three_ways(self):
        links = links_of([(0, 1), (0, 2), (0, 3), (1, 4), (2, 5), (3, 6), (4, 7), (5, 7), (6, 7), (4, 5), (5, 6)])
        self.assertEqual(ask(web(7, links), ways(7), ways(5), ways(6), ways(4))[1:], [[3], [2], [2], [1]])

    def test_ring(self):
        links = links_of([(0, 1), (1, 2), (2, 3), (3, 4), (4, 1), (4, 2)])
        self.assertEqual(ask(web(4, links), ways(2), ways(3), ways(4))[1:], [[1], [1], [1]])


class Refused(unittest.TestCase):
    def test_before_the_first_call(self):
        self.assertEqual(ask(least(1), ways(1)), [[-6], [-6]])

    def test_out_of_range(self):
        for call in (least, ways):
            for k in (0, 5, -1, LOWEST, HIGHEST):
                given = ask(EXAMPLE, told(), call(k), told())
                self.assertEqual(given[2], [-1])
                self.assertEqual(given[1], given[3])

    def test_range_goes_by_n(self):
        for call in (least, ways):
            self.assertEqual(ask(call(0), call(2), web(10, []), call(10), call(11)),
                             [[-1], [-1], [0], [-5], [-1]])

    def test_does_not_live(self):
        lines = (web(3, [0, 3, 1, 1, 2, 1, 2, 1, 1]), web(3, [0, 3, 1, 1, 3, 1]), web(2, []), web(1, []))
        for call in (least, ways):
            for line in lines:
                given = ask(line, told(), call(1), told())
                self.assertEqual(given[2], [-5])
                self.assertEqual(given[1], given[3])

    def test_link_from_the_sun(self):
        for call in (least, ways):
            given = ask(EXAMPLE, told(), call(1), call(2), told())
            self.assertEqual(given[2:4], [[-6], [-6]])
            self.assertEqual(given[1], given[4])
            self.assertEqual(ask(web(3, [0, 1, 1, 1, 3, 1, 0, 3, 1]), call(3)), [[0], [-6]])

    def test_order_of_refusals(self):
        line = web(3, [0, 1, 1, 1, 2, 1])
        for call in (least, ways):
            self.assertEqual(ask(line, call(4), call(3), call(1))[1:], [[-1], [-5], [-6]])


if __name__ == "__main__":
    unittest.main()
