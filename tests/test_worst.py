import unittest

from tests.helper import HIGHEST, LOWEST, ask, ask_last, links_of, possible_pairs, told, web, worst

EXAMPLE = web(4, [0, 1, 1, 0, 2, 1, 1, 3, 1, 2, 3, 3, 3, 4, 5])


class Worst(unittest.TestCase):
    def test_before_the_first_call(self):
        self.assertEqual(ask(worst(1)), [[1, 1]])

    def test_example(self):
        self.assertEqual(ask_last(EXAMPLE, worst(1)), [2, 3])

    def test_more_of_the_example_web(self):
        self.assertEqual(ask(EXAMPLE, worst(2), worst(3), worst(4))[1:],
                         [[4, 1, 2], [4, 1, 2, 3], [4, 1, 2, 3, 4]])

    def test_first_of_several(self):
        links = links_of([(0, 1), (0, 2), (0, 3), (2, 4), (3, 5)])
        self.assertEqual(ask(web(5, links), worst(1), worst(2), worst(3))[1:],
                         [[2, 2], [4, 2, 3], [5, 1, 2, 3]])

    def test_without_links(self):
        self.assertEqual(ask(web(4, []), worst(1), worst(3), worst(4))[1:], [[0, 1], [0, 1, 2, 3], [0, 1, 2, 3, 4]])
        self.assertEqual(ask(web(1, []), worst(1))[1:], [[0, 1]])

    def test_kinds_that_do_not_live_do_not_count(self):
        # 1 and 2 feed one another alone; 3 and 4 live.
        links = links_of([(1, 2), (2, 1), (0, 3), (3, 4)])
        self.assertEqual(ask(web(4, links), worst(1), worst(2), worst(3), worst(4))[1:],
                         [[2, 3], [2, 1, 3], [2, 1, 2, 3], [2, 1, 2, 3, 4]])

    def test_all_links_of_ten_kinds(self):
        full = web(10, links_of(possible_pairs(10)))
        for m in range(1, 11):
            self.assertEqual(ask_last(full, worst(m)), [m] + list(range(1, m + 1)))

    def test_ten_kinds_at_the_end_of_the_order(self):
        links = links_of([(0, 9), (0, 10)] + [(9, k) for k in range(1, 9)] + [(10, k) for k in range(1, 9)])
        self.assertEqual(ask(web(10, links), worst(1), worst(2), worst(3), worst(9), worst(10))[1:],
                         [[1, 1], [10, 9, 10], [10, 1, 9, 10], [10, 1, 2, 3, 4, 5, 6, 7, 9, 10],
                          [10] + list(range(1, 11))])


class Refused(unittest.TestCase):
    def test_out_of_range(self):
        for m in (0, 5, -1, LOWEST, HIGHEST):
            given = ask(EXAMPLE, told(), worst(m), told())
            self.assertEqual(given[2], [-1])
            self.assertEqual(given[1], given[3])

    def test_range_goes_by_n(self):
        self.assertEqual(ask(worst(0), worst(2), web(10, []), worst(11), worst(10)),
                         [[-1], [-1], [0], [-1], [0] + list(range(1, 11))])


if __name__ == "__main__":
    unittest.main()
