import unittest

from tests.helper import HIGHEST, LOWEST, alive, ask, ask_last, links_of, possible_pairs, told, web

FIRST = [1, 1, 0, 1, 1]


class WebAndTold(unittest.TestCase):
    def test_before_the_first_call(self):
        self.assertEqual(ask(told()), [FIRST])

    def test_example(self):
        links = [0, 1, 1, 0, 2, 1, 1, 3, 1, 2, 3, 3, 3, 4, 5]
        self.assertEqual(ask(web(4, links), told()), [[0], [4, 5] + links])

    def test_one_kind_without_links(self):
        self.assertEqual(ask(web(1, []), told()), [[0], [1, 0]])

    def test_ten_kinds_without_links(self):
        self.assertEqual(ask(web(10, []), told()), [[0], [10, 0]])

    def test_order_of_foods_then_eaters(self):
        handed = [3, 2, 7, 0, 3, 1000, 3, 1, 4, 1, 3, 1, 0, 1, 9, 2, 1, 6]
        want = [3, 6, 0, 1, 9, 0, 3, 1000, 1, 3, 1, 2, 1, 6, 3, 1, 4, 3, 2, 7]
        self.assertEqual(ask(web(3, handed), told()), [[0], want])

    def test_order_goes_by_numbers_up_to_ten(self):
        handed = [10, 9, 1, 9, 10, 2, 2, 10, 3, 2, 9, 4, 1, 10, 5, 0, 10, 6]
        want = [10, 6, 0, 10, 6, 1, 10, 5, 2, 9, 4, 2, 10, 3, 9, 10, 2, 10, 9, 1]
        self.assertEqual(ask(web(10, handed), told()), [[0], want])

    def test_all_links_of_ten_kinds(self):
        links = links_of(possible_pairs(10), 1000)
        self.assertEqual(len(links), 300)
        backward = links_of(reversed(possible_pairs(10)), 1000)
        self.assertEqual(ask(web(10, backward), told()), [[0], [10, 100] + links])

    def test_both_directions_are_two_links(self):
        self.assertEqual(ask(web(2, [1, 2, 3, 2, 1, 4]), told()), [[0], [2, 2, 1, 2, 3, 2, 1, 4]])

    def test_a_web_takes_the_place_of_the_one_before(self):
        given = ask(web(3, [0, 1, 1, 1, 2, 5]), told(), web(2, [0, 2, 8]), told(), web(5, []), told())
        self.assertEqual(given, [[0], [3, 2, 0, 1, 1, 1, 2, 5], [0], [2, 1, 0, 2, 8], [0], [5, 0]])

    def test_told_changes_nothing(self):
        self.assertEqual(ask(told(), told(), alive([]), told()), [FIRST, FIRST, [1, 1], FIRST])


class WebRefused(unittest.TestCase):
    def refused(self, n, links):
        own = [0, 3, 5, 1, 2, 4, 2, 3, 6]
        before = [3, 3] + own
        self.assertEqual(ask(web(3, own), web(n, links), told()), [[0], [-1], before])
        self.assertEqual(ask(web(n, links), told()), [[-1], FIRST])

    def taken(self, n, links):
        self.assertEqual(ask_last(web(n, links)), [0])

    def test_n(self):
        for n in (0, 11, -1, LOWEST, HIGHEST):
            self.refused(n, [])
            self.refused(n, [0, 1, 1])
        self.taken(1, [0, 1, 1])
        self.taken(10, [0, 1, 1])

    def test_food(self):
        for food in (-1, 4, LOWEST, HIGHEST):
            self.refused(3, [0, 1, 1, food, 2, 1])
        self.taken(3, [0, 2, 1, 3, 2, 1])

    def test_eater(self):
        for eater in (0, -1, 4, LOWEST, HIGHEST):
            self.refused(3, [0, 1, 1, 2, eater, 1])
        self.taken(3, [2, 1, 1, 2, 3, 1])

    def test_sun_as_eater_of_the_sun(self):
        self.refused(3, [0, 0, 1])

    def test_weight(self):
        for weight in (0, -1, 1001, LOWEST, HIGHEST):
            self.refused(3, [0, 1, 1, 1, 2, weight])
            self.refused(3, [0, 1, weight, 1, 2, 1])
        self.taken(3, [0, 1, 1, 1, 2, 1000])

    def test_range_goes_by_the_new_n(self):
        self.assertEqual(ask(web(2, []), web(3, [0, 3, 1]), web(2, [0, 3, 1])), [[0], [0], [-1]])

    def test_not_a_multiple_of_three(self):
        for links in ([0], [0, 1], [0, 1, 1, 0], [0, 1, 1, 0, 2], [1] * 310):
            self.refused(3, links)

    def test_length_of_links(self):
        links = links_of(possible_pairs(10))
        self.taken(10, links)
        for more in (1, 2, 3, 6, 9, 10):
            self.refused(10, (links + links)[:300 + more])

    def test_food_is_its_own_eater(self):
        for kind in (1, 2, 3):
            self.refused(3, [kind, kind, 1])
            self.refused(3, [0, 1, 1, kind, kind, 1])

    def test_link_told_twice(self):
        self.refused(3, [0, 1, 1, 0, 1, 1])
        self.refused(3, [0, 1, 1, 1, 2, 5, 0, 1, 2])
        self.refused(3, [2, 3, 1, 0, 1, 1, 3, 2, 1, 2, 3, 9])


if __name__ == "__main__":
    unittest.main()
