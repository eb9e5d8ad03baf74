import unittest

from tests.helper import HIGHEST, LOWEST, ask, ask_last, links_of, order, possible_pairs, remove, together, told, web
from tests.helper import weight

EXAMPLE = web(4, [0, 1, 1, 0, 2, 1, 1, 3, 1, 2, 3, 3, 3, 4, 5])
FULL = web(10, links_of(possible_pairs(10)))
# 5 stands on two rings, 5 2 6 and 5 3; 1 and 4 on one that is fed by these; 7 on none.
RINGS = web(7, links_of([(0, 5), (5, 2), (2, 6), (6, 5), (5, 3), (3, 5), (3, 1), (1, 4), (4, 1), (4, 7)]))


class Together(unittest.TestCase):
    def test_before_the_first_call(self):
        self.assertEqual(ask(together(1)), [[1, 1]])

    def test_on_no_ring(self):
        self.assertEqual(ask(EXAMPLE, together(1), together(2), together(3), together(4))[1:],
                         [[1, 1], [1, 2], [1, 3], [1, 4]])
        self.assertEqual(ask_last(RINGS, together(7)), [1, 7])

    def test_without_links(self):
        self.assertEqual(ask(web(1, []), together(1), web(10, []), together(10)), [[0], [1, 1], [0], [1, 10]])

    def test_on_several_rings(self):
        for k in (2, 3, 5, 6):
            self.assertEqual(ask_last(RINGS, together(k)), [4, 2, 3, 5, 6])

    def test_a_ring_behind_a_ring_is_another(self):
        self.assertEqual(ask(RINGS, together(1), together(4))[1:], [[2, 1, 4], [2, 1, 4]])

    def test_a_ring_that_does_not_live(self):
        dead = web(4, links_of([(0, 4), (1, 2), (2, 3), (3, 1), (1, 4)]))
        self.assertEqual(ask(dead, together(1), together(2), together(3), together(4))[1:],
                         [[3, 1, 2, 3], [3, 1, 2, 3], [3, 1, 2, 3], [1, 4]])

    def test_one_way_is_not_enough(self):
        self.assertEqual(ask(web(3, links_of([(1, 2), (3, 2), (1, 3)])), together(1), together(2), together(3))[1:],
                         [[1, 1], [1, 2], [1, 3]])

    def test_ten_kinds(self):
        ring = web(10, links_of([(k, k % 10 + 1) for k in range(1, 11)]))
        for k in (1, 5, 10):
            self.assertEqual(ask(ring, together(k), FULL, together(k)),
                             [[0], [10] + list(range(1, 11)), [0], [10] + list(range(1, 11))])

    def test_web_remove_and_weight_between(self):
        given = ask(RINGS, weight(7, 5, 1), together(7), remove(3), together(6), weight(6, 2, 3), together(2),
                    weight(5, 4, 0), together(4), EXAMPLE, together(4))
        self.assertEqual(given, [[0], [0], [7, 1, 2, 3, 4, 5, 6, 7], [6], [1, 6], [0], [3, 2, 4, 5],
                                 [1], [1, 4], [0], [1, 4]])

    def test_out_of_range(self):
        for k in (0, 8, -1, LOWEST, HIGHEST):
            given = ask(RINGS, told(), together(k), told(), together(1))
            self.assertEqual(given[2], [-1])
            self.assertEqual(given[1], given[3])
            self.assertEqual(given[4], [2, 1, 4])

    def test_range_goes_by_n(self):
        self.assertEqual(ask(together(0), together(2), web(10, []), together(10), together(11), remove(3), together(10)),
                         [[-1], [-1], [0], [1, 10], [-1], [9], [-1]])


class Order(unittest.TestCase):
    def test_before_the_first_call(self):
        self.assertEqual(ask(order()), [[1, 1]])

    def test_example(self):
        self.assertEqual(ask_last(EXAMPLE, order()), [4, 1, 2, 3, 4])

    def test_as_it_was_made_not_going_up(self):
        self.assertEqual(ask_last(web(5, links_of([(0, 4), (4, 2), (2, 5), (5, 1), (1, 3)])), order()), [5, 4, 2, 5, 1, 3])
        back = web(10, links_of([(0, 10)] + [(k, k - 1) for k in range(10, 1, -1)]))
        self.assertEqual(ask_last(back, order()), [10] + list(range(10, 0, -1)))

    def test_always_the_least_that_can_be(self):
        # Behind 3 the lesser 1 can be listed at once, ahead of 4.
        self.assertEqual(ask_last(web(5, links_of([(0, 3), (0, 4), (3, 1), (4, 2), (0, 5)])), order()),
                         [5, 3, 1, 4, 2, 5])

    def test_all_foods_have_to_be_listed(self):
        self.assertEqual(ask_last(web(3, links_of([(0, 1), (3, 1), (0, 2), (2, 3), (0, 3)])), order()), [3, 2, 3, 1])

    def test_a_kind_without_foods_is_listed(self):
        self.assertEqual(ask_last(web(3, links_of([(3, 1), (0, 2)])), order()), [3, 2, 3, 1])
        self.assertEqual(ask(web(1, []), order(), web(10, []), order()),
                         [[0], [1, 1], [0], [10] + list(range(1, 11))])

    def test_rings_can_t_be_listed_nor_what_is_behind(self):
        self.assertEqual(ask_last(RINGS, order()), [0])
        links = links_of([(0, 5), (5, 2), (2, 3), (3, 2), (3, 1), (5, 4), (0, 1)])
        self.assertEqual(ask_last(web(6, links), order()), [3, 5, 4, 6])

    def test_all_links_of_ten_kinds(self):
        self.assertEqual(ask_last(FULL, order()), [0])
        pairs = [(food, eater) for food, eater in possible_pairs(10) if food < eater]
        self.assertEqual(ask_last(web(10, links_of(pairs)), order()), [10] + list(range(1, 11)))

    def test_it_changes_nothing(self):
        given = ask(EXAMPLE, told(), order(), together(3), told(), order())
        self.assertEqual(given[1], given[4])
        self.assertEqual(given[2], given[5])

    def test_web_remove_and_weight_between(self):
        given = ask(RINGS, order(), remove(5), order(), weight(3, 2, 1), order(), weight(1, 4, 0), order(),
                    EXAMPLE, weight(4, 1, 1), order(), weight(4, 1, 0), order())
        # Without 5: 2 and 3 have no foods, 6 is called 5, and 1 and 4 are still a ring.
        self.assertEqual(given, [[0], [0], [6], [3, 2, 3, 5], [0], [3, 3, 2, 5], [1], [6, 3, 2, 4, 1, 5, 6],
                                 [0], [0], [1, 2], [1], [4, 1, 2, 3, 4]])


if __name__ == "__main__":
    unittest.main()
