import unittest

from tests.helper import HIGHEST, LOWEST, ask, ask_last, chains, links_of, possible_pairs, remove, shortest, told, web
from tests.helper import weight

EXAMPLE = web(4, [0, 1, 1, 0, 2, 1, 1, 3, 1, 2, 3, 3, 3, 4, 5])
RING = web(2, [0, 1, 1, 1, 2, 1, 2, 1, 1])
FULL = web(10, links_of(possible_pairs(10), 1000))
ROW = web(10, links_of([(k, k + 1) for k in range(10)]))
# 1, 2 and 3 feed one another and are not fed by the sun; 4 is; 5 has no foods.
DEAD_RING = web(5, [0, 4, 1, 1, 2, 1, 2, 3, 1, 3, 1, 1, 1, 4, 1])


class Chains(unittest.TestCase):
    def test_before_the_first_call(self):
        self.assertEqual(ask(chains(1), chains(2), chains(60)), [[1, 1], [1, 0], [1, 0]])

    def test_example_web(self):
        self.assertEqual(ask(EXAMPLE, chains(1), chains(2), chains(3), chains(4))[1:],
                         [[4, 1, 1, 0, 0], [4, 0, 0, 2, 0], [4, 0, 0, 0, 2], [4, 0, 0, 0, 0]])

    def test_ring(self):
        for m in range(1, 61):
            self.assertEqual(ask_last(RING, chains(m)), [2, m % 2, 1 - m % 2])

    def test_kinds_come_again_and_again(self):
        # Each chain to 1 goes on to 2 and to 3, each of these to 1 alone.
        two_rings = web(3, links_of([(0, 1), (1, 2), (2, 1), (1, 3), (3, 1)]))
        self.assertEqual(ask(two_rings, chains(1), chains(2), chains(3), chains(59), chains(60))[1:],
                         [[3, 1, 0, 0], [3, 0, 1, 1], [3, 2, 0, 0], [3, 2 ** 29, 0, 0], [3, 0, 2 ** 29, 2 ** 29]])

    def test_all_links_of_ten_kinds(self):
        self.assertEqual(ask(FULL, chains(1), chains(2), chains(3), chains(60))[1:],
                         [[10] + [1] * 10, [10] + [9] * 10, [10] + [81] * 10, [10] + [9 ** 59] * 10])

    def test_one_kind_eats_of_the_sun(self):
        # Of n kinds, all of whom eat one another, only the last eats of the sun.
        pairs = [pair for pair in possible_pairs(10) if pair[0] != 0] + [(0, 10)]
        last = [1]
        other = [0]
        for m in range(59):
            last.append(9 * other[-1])
            other.append(last[-2] + 8 * other[-1])
        self.assertEqual(ask_last(web(10, links_of(pairs)), chains(60)), [10] + [other[59]] * 9 + [last[59]])

    def test_row(self):
        for m in range(1, 11):
            self.assertEqual(ask_last(ROW, chains(m)), [10] + [1 if k == m else 0 for k in range(1, 11)])
        self.assertEqual(ask(ROW, chains(11), chains(60))[1:], [[10] + [0] * 10] * 2)

    def test_only_chains_from_the_sun(self):
        self.assertEqual(ask(DEAD_RING, chains(1), chains(2), chains(60))[1:],
                         [[5, 0, 0, 0, 1, 0], [5, 0, 0, 0, 0, 0], [5, 0, 0, 0, 0, 0]])

    def test_without_links(self):
        self.assertEqual(ask(web(1, []), chains(1), web(10, []), chains(1), chains(60)),
                         [[0], [1, 0], [0], [10] + [0] * 10, [10] + [0] * 10])

    def test_web_remove_and_weight_between(self):
        given = ask(EXAMPLE, weight(4, 3, 9), chains(4), chains(5), weight(4, 3, 0), chains(4), remove(2), chains(2),
                    weight(0, 2, 1), chains(1), RING, chains(3))
        self.assertEqual(given, [[0], [0], [4, 0, 0, 2, 0], [4, 0, 0, 0, 2], [1], [4, 0, 0, 0, 0], [3], [3, 0, 1, 0],
                                 [0], [3, 1, 1, 0], [0], [2, 1, 0]])

    def test_out_of_range(self):
        for m in (0, 61, -1, LOWEST, HIGHEST):
            given = ask(EXAMPLE, told(), chains(m), told(), chains(2))
            self.assertEqual(given[2], [-1])
            self.assertEqual(given[1], given[3])
            self.assertEqual(given[4], [4, 0, 0, 2, 0])

    def test_range_does_not_go_by_n(self):
        self.assertEqual(ask(chains(60), chains(61), FULL, chains(61)), [[1, 0], [-1], [0], [-1]])


class Shortest(unittest.TestCase):
    def test_before_the_first_call(self):
        self.assertEqual(ask(shortest(1)), [[1]])

    def test_example_web(self):
        self.assertEqual(ask(EXAMPLE, shortest(1), shortest(2), shortest(3), shortest(4))[1:], [[1], [1], [2], [3]])

    def test_row_both_ways(self):
        back = web(10, links_of([(0, 10)] + [(k, k - 1) for k in range(10, 1, -1)]))
        for k in range(1, 11):
            self.assertEqual(ask_last(ROW, shortest(k)), [k])
            self.assertEqual(ask_last(back, shortest(k)), [11 - k])

    def test_the_shorter_of_two(self):
        links = links_of([(0, 1), (1, 2), (2, 3), (3, 4), (4, 5), (2, 5), (0, 4)])
        self.assertEqual(ask(web(5, links), shortest(5), shortest(4), shortest(3))[1:], [[2], [1], [3]])

    def test_weights_do_not_count(self):
        self.assertEqual(ask_last(web(2, [0, 1, 1, 1, 2, 1, 0, 2, 1000]), shortest(2)), [1])

    def test_no_chain(self):
        self.assertEqual(ask(DEAD_RING, shortest(1), shortest(2), shortest(3), shortest(4), shortest(5))[1:],
                         [[0], [0], [0], [1], [0]])
        self.assertEqual(ask(web(1, []), shortest(1), web(10, []), shortest(10)), [[0], [0], [0], [0]])

    def test_rings(self):
        self.assertEqual(ask(RING, shortest(1), shortest(2))[1:], [[1], [2]])
        ring = web(10, links_of([(0, 4)] + [(k, k % 10 + 1) for k in range(1, 11)]))
        self.assertEqual(ask(ring, shortest(4), shortest(5), shortest(3))[1:], [[1], [2], [10]])

    def test_all_links_of_ten_kinds(self):
        self.assertEqual(ask(FULL, shortest(1), shortest(10))[1:], [[1], [1]])

    def test_web_remove_and_weight_between(self):
        given = ask(EXAMPLE, weight(0, 4, 1), shortest(4), weight(0, 4, 0), shortest(4), remove(3), shortest(3),
                    weight(2, 3, 1), shortest(3), RING, shortest(2))
        self.assertEqual(given, [[0], [0], [1], [1], [3], [3], [0], [0], [2], [0], [2]])

    def test_out_of_range(self):
        for k in (0, 5, -1, LOWEST, HIGHEST):
            given = ask(EXAMPLE, told(), shortest(k), told(), shortest(4))
            self.assertEqual(given[2], [-1])
            self.assertEqual(given[1], given[3])
            self.assertEqual(given[4], [3])

    def test_range_goes_by_n(self):
        self.assertEqual(ask(shortest(0), shortest(2), FULL, shortest(10), shortest(11), remove(1), shortest(10)),
                         [[-1], [-1], [0], [1], [-1], [9], [-1]])


if __name__ == "__main__":
    unittest.main()
