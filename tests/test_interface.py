import contextlib
import io
import unittest

from foodwebs.pond import answers
from tests.helper import HIGHEST, LOWEST, alive, ask, falls, least, links_of, nearest, needed, possible_pairs
from tests.helper import told, ways, web, worst

EXAMPLE = web(4, [0, 1, 1, 0, 2, 1, 1, 3, 1, 2, 3, 3, 3, 4, 5])
LINES = [
    told(),
    EXAMPLE + told() + alive([3]) + falls(3) + needed(4) + nearest(4) + least(3) + ways(3) + worst(2),
    EXAMPLE + alive([3, 3, 1]) + falls(5) + needed(0) + nearest(HIGHEST) + least(LOWEST) + ways(1) + worst(9),
    web(2, [1, 2, 1, 1, 2, 1]) + told() + web(2, []) + needed(1) + least(2) + alive([1] * 11) + told(),
    web(10, links_of(reversed(possible_pairs(10)))) + told() + worst(3) + alive([10, 9, 8]),
]


class Interface(unittest.TestCase):
    def test_flat_form(self):
        self.assertEqual(answers([0, 4, 15, 0, 1, 1, 0, 2, 1, 1, 3, 1, 2, 3, 3, 3, 4, 5, 2, 1, 3, 3, 3, 5, 4,
                                  6, 3, 7, 3, 6, 4, 8, 1]),
                         [1, 0, 3, 2, 1, 2, 3, 2, 3, 4, 1, 3, 3, 2, 1, 2, 1, 2, 2, 1, 3, 2, 2, 3])

    def test_flat_form_of_refusals(self):
        self.assertEqual(answers([0, 11, 0, 3, 2, 0, 2, 0, 4, 1, 6, 1, 6, 2, 1]),
                         [1, -1, 1, -1, 1, 0, 1, -5, 1, -5, 1, -5, 2, 2, 0])

    def test_rows_of_a_refused_call_are_passed_over(self):
        self.assertEqual(answers([0, 99, 4, 8, 1, 1, 1, 1]), [1, -1, 5, 1, 1, 0, 1, 1])
        self.assertEqual(answers([2, 310] + [1] * 310 + [2, 0]), [1, -1, 2, 1, 1])
        self.assertEqual(answers([0, 1, 310] + [1] * 310 + [2, 0]), [1, -1, 2, 1, 1])

    def test_what_is_handed_in_is_not_changed(self):
        for line in LINES:
            handed = list(line)
            answers(handed)
            self.assertEqual(handed, line)

    def test_it_is_not_changed_for_a_while_either(self):
        for line in LINES:
            watched = Watched(line)
            self.assertEqual(answers(watched), answers(list(line)))

    def test_same_line_same_answers(self):
        wanted = [answers(list(line)) for line in LINES]
        for line, want in reversed(list(zip(LINES, wanted))):
            self.assertEqual(answers(list(line)), want)
            self.assertEqual(answers(list(line)), want)

    def test_each_time_a_new_object(self):
        answers(EXAMPLE)
        self.assertEqual(answers(told()), [5, 1, 1, 0, 1, 1])

    def test_what_is_given_back_is_not_kept(self):
        given = answers(told())
        given.clear()
        self.assertEqual(answers(told()), [5, 1, 1, 0, 1, 1])

    def test_whole_numbers_in_a_list(self):
        for line in LINES:
            given = answers(list(line))
            self.assertIs(type(given), list)
            self.assertEqual({type(number) for number in given}, {int})

    def test_nothing_is_printed(self):
        out = io.StringIO()
        err = io.StringIO()
        with contextlib.redirect_stdout(out), contextlib.redirect_stderr(err):
            for line in LINES:
                answers(list(line))
        self.assertEqual(out.getvalue() + err.getvalue(), "")

    def test_four_hundred_calls(self):
        self.assertEqual(ask(*[told()] * 400), [[1, 1, 0, 1, 1]] * 400)
        full = web(10, links_of(pair for pair in possible_pairs(10) if pair != (0, 10)))
        given = ask(full, *[least(10), ways(10), worst(5)] * 133)
        self.assertEqual(given[1:], [[9, 1, 2, 3, 4, 5, 6, 7, 8, 9], [9], [5, 1, 2, 3, 4, 5]] * 133)

    def test_several_calls_on_one_object(self):
        given = ask(worst(1), EXAMPLE, least(3), web(4, [0, 9, 1]), least(4), web(2, [0, 1, 1, 1, 2, 1]),
                    least(2), needed(2), falls(1), alive([1]), falls(3), told())
        self.assertEqual(given, [[1, 1], [0], [2, 1, 2], [-1], [1, 3], [0], [1, 1], [1, 1], [2, 1, 2], [0],
                                 [-1], [2, 2, 0, 1, 1, 1, 2, 1]])


class Watched(list):
    """A list that refuses every change."""

    def refuse(self, *rest, **named):
        raise AssertionError("what is handed in was changed")

    append = extend = insert = pop = remove = clear = sort = reverse = refuse
    __setitem__ = __delitem__ = __iadd__ = __imul__ = refuse


if __name__ == "__main__":
    unittest.main()
