import builtins
import contextlib
import io
import unittest
from unittest import mock

from foodwebs.pond import answers
from tests.helper import HIGHEST, LOWEST, alive, ask, chains, falls, least, levels, links_of, nearest, needed, order
from tests.helper import possible_pairs, remove, shortest, through, together, told, ways, web, weight, worst

EXAMPLE = web(4, [0, 1, 1, 0, 2, 1, 1, 3, 1, 2, 3, 3, 3, 4, 5])
LINES = [
    told(),
    EXAMPLE + told() + alive([3]) + falls(3) + needed(4) + nearest(4) + least(3) + ways(3) + worst(2),
    EXAMPLE + alive([3, 3, 1]) + falls(5) + needed(0) + nearest(HIGHEST) + least(LOWEST) + ways(1) + worst(9),
    web(2, [1, 2, 1, 1, 2, 1]) + told() + web(2, []) + needed(1) + least(2) + alive([1] * 11) + told(),
    web(10, links_of(reversed(possible_pairs(10)))) + told() + worst(3) + alive([10, 9, 8]),
    EXAMPLE + levels() + through(1) + chains(3) + shortest(4) + together(3) + order() + remove(2) + weight(0, 3, 9),
    EXAMPLE + weight(0, 4, 1000) + weight(4, 1, 7) + levels() + through(4) + remove(3) + told() + order() + together(1),
    web(3, [0, 1, 1]) + levels() + through(3) + through(4) + chains(61) + shortest(0) + together(4) + order(),
    remove(1) + remove(2) + weight(1, 1, 1) + weight(0, 0, 1) + weight(0, 1, 0) + levels() + told() + chains(60),
    web(10, links_of(possible_pairs(10), 1000)) + chains(60) + levels() + through(10) + remove(1) + told(),
]


class Interface(unittest.TestCase):
    def test_flat_form(self):
        self.assertEqual(answers([0, 4, 15, 0, 1, 1, 0, 2, 1, 1, 3, 1, 2, 3, 3, 3, 4, 5, 2, 1, 3, 3, 3, 5, 4,
                                  6, 3, 7, 3, 6, 4, 8, 1]),
                         [1, 0, 3, 2, 1, 2, 3, 2, 3, 4, 1, 3, 3, 2, 1, 2, 1, 2, 2, 1, 3, 2, 2, 3])

    def test_flat_form_of_the_calls_from_9_on(self):
        self.assertEqual(answers([0, 4, 15, 0, 1, 1, 0, 2, 1, 1, 3, 1, 2, 3, 3, 3, 4, 5, 9, 10, 1, 11, 2, 12, 4, 13, 4,
                                  14, 15, 1, 16, 0, 3, 6, 16, 2, 3, 0, 1]),
                         [1, 0, 9, 4, 1, 1, 1, 1, 2, 1, 3, 1, 9, 4, 1, 1, 0, 1, 1, 4, 1, 4, 5, 4, 0, 0, 2, 0, 1, 3,
                          2, 1, 4, 5, 4, 1, 2, 3, 4, 1, 3, 1, 0, 1, 1, 11, 3, 3, 0, 1, 1, 0, 3, 6, 1, 2, 3])

    def test_flat_form_of_refusals_from_9_on(self):
        self.assertEqual(answers([10, 2, 11, 0, 12, 2, 13, 2, 15, 1, 16, 1, 1, 5, 16, 0, 0, 5, 16, 0, 1, 0, 9, 10, 1, 1]),
                         [1, -1, 1, -1, 1, -1, 1, -1, 1, -8, 1, -9, 1, -1, 1, 1, 1, -7, 1, -7, 2, 1, 0])

    def test_all_examples_in_one_line(self):
        given = ask(EXAMPLE, alive([3]), falls(3), nearest(4), least(3), ways(3), least(4), levels(), through(1),
                    worst(1), order())
        self.assertEqual(given, [[0], [2, 1, 2], [2, 3, 4], [3], [2, 1, 2], [2], [1, 3], [4, 1, 1, 1, 1, 2, 1, 3, 1],
                                 [4, 1, 1, 0, 1, 1, 4, 1, 4], [2, 3], [4, 1, 2, 3, 4]])

    def test_flat_form_of_refusals(self):
        self.assertEqual(answers([0, 11, 0, 3, 2, 0, 2, 0, 4, 1, 6, 1, 6, 2, 1]),
                         [1, -1, 1, -1, 1, 0, 1, -5, 1, -5, 1, -5, 2, 2, 0])

    def test_rows_of_a_refused_call_are_passed_over(self):
        self.assertEqual(answers([0, 99, 4, 8, 1, 1, 1, 1]), [1, -1, 5, 1, 1, 0, 1, 1])
        self.assertEqual(answers([2, 310] + [1] * 310 + [2, 0]), [1, -1, 2, 1, 1])
        self.assertEqual(answers([0, 1, 310] + [1] * 310 + [2, 0]), [1, -1, 2, 1, 1])

    def test_what_is_handed_in_is_not_changed(self):
        for line in LINES:
            handed = list(line)
            answers(handed)
            self.assertEqual(handed, line)

    def test_it_is_not_changed_for_a_while_either(self):
        for line in LINES:
            watched = Watched(line)
            self.assertEqual(answers(watched), answers(list(line)))

    def test_same_line_same_answers(self):
        wanted = [answers(list(line)) for line in LINES]
        for line, want in reversed(list(zip(LINES, wanted))):
            self.assertEqual(answers(list(line)), want)
            self.assertEqual(answers(list(line)), want)

    def test_each_time_a_new_object(self):
        answers(EXAMPLE)
        self.assertEqual(answers(told()), [5, 1, 1, 0, 1, 1])

    def test_what_is_given_back_is_not_kept(self):
        given = answers(told())
        given.clear()
        self.assertEqual(answers(told()), [5, 1, 1, 0, 1, 1])

    def test_whole_numbers_in_a_list(self):
        for line in LINES:
            given = answers(list(line))
            self.assertIs(type(given), list)
            self.assertEqual({type(number) for number in given}, {int})

    def test_nothing_is_printed(self):
        out = io.StringIO()
        err = io.StringIO()
        with contextlib.redirect_stdout(out), contextlib.redirect_stderr(err):
            for line in LINES:
                answers(list(line))
        self.assertEqual(out.getvalue() + err.getvalue(), "")

    def test_nothing_is_imported_or_read(self):
        wanted = [answers(list(line)) for line in LINES]
        refuse = mock.Mock(side_effect=AssertionError("imported or read"))
        names = ("__import__", "open", "input")
        with contextlib.ExitStack() as stack:
            for name in names:
                stack.enter_context(mock.patch.object(builtins, name, refuse))
            given = [answers(list(line)) for line in LINES]
        self.assertEqual(given, wanted)

    def test_the_longest_line(self):
        wide = web(10, links_of(possible_pairs(10), 1000))
        calls = [wide] * 51 + [told(), levels(), through(7), chains(60)] * 87
        line = [number for call in calls for number in call]
        self.assertLessEqual(len(line), 16000)
        self.assertGreater(len(line), 15900)
        given = ask(*calls)
        self.assertEqual(given[:51], [[0]] * 51)
        self.assertEqual(given[51:], [[10, 100] + wide[3:], [10] + [10, 1] * 10,
                                      [10] + [1, 2] * 6 + [1, 1] + [1, 2] * 3, [10] + [9 ** 59] * 10] * 87)

    def test_four_hundred_of_each_call(self):
        full = web(10, links_of(possible_pairs(10)))
        for call in (levels(), through(10), chains(60), shortest(10), together(10), order(), weight(0, 1, 1)):
            given = ask(full, *[call] * 399)
            self.assertEqual(given[1:], [given[1]] * 399)

    def test_four_hundred_calls(self):
        self.assertEqual(ask(*[told()] * 400), [[1, 1, 0, 1, 1]] * 400)
        full = web(10, links_of(pair for pair in possible_pairs(10) if pair != (0, 10)))
        given = ask(full, *[least(10), ways(10), worst(5)] * 133)
        self.assertEqual(given[1:], [[9, 1, 2, 3, 4, 5, 6, 7, 8, 9], [9], [5, 1, 2, 3, 4, 5]] * 133)

    def test_several_calls_on_one_object(self):
        given = ask(worst(1), EXAMPLE, least(3), web(4, [0, 9, 1]), least(4), web(2, [0, 1, 1, 1, 2, 1]),
                    least(2), needed(2), falls(1), alive([1]), falls(3), told())
        self.assertEqual(given, [[1, 1], [0], [2, 1, 2], [-1], [1, 3], [0], [1, 1], [1, 1], [2, 1, 2], [0],
                                 [-1], [2, 2, 0, 1, 1, 1, 2, 1]])


class Watched(list):
    """A list that refuses every change."""

    def refuse(self, *rest, **named):
        raise AssertionError("what is handed in was changed")

    append = extend = insert = pop = remove = clear = sort = reverse = refuse
    __setitem__ = __delitem__ = __iadd__ = __imul__ = refuse


if __name__ == "__main__":
    unittest.main()
