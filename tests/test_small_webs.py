"""The program beside the second reckoning, on whole families of webs."""

import unittest

from tests.helper import Reckoning, alive, ask, chains, falls, fits_levels, fits_through, least, levels, nearest
from tests.helper import needed, order, possible_pairs, scattered_numbers, shortest, through, together, told, ways
from tests.helper import web, worst


def lists_of_kinds(n):
    return [[k for k in range(1, n + 1) if bits >> k & 1] for bits in range(0, 2 ** (n + 1), 2)]


def calls_and_answers(n, pairs):
    reckoning = Reckoning(n, pairs)
    both = [(alive(kinds), reckoning.alive(kinds)) for kinds in lists_of_kinds(n)]
    for k in range(1, n + 1):
        both.append((falls(k), reckoning.falls(k)))
        both.append((needed(k), reckoning.needed(k)))
        both.append((nearest(k), reckoning.nearest(k)))
        both.append((least(k), reckoning.least(k)))
        both.append((ways(k), reckoning.ways(k)))
        both.append((worst(k), reckoning.worst(k)))
        both.append((shortest(k), reckoning.shortest(k)))
        both.append((together(k), reckoning.together(k)))
    both.append((order(), reckoning.order()))
    for m in range(1, 5):
        both.append((chains(m), reckoning.count_chains(m)))
    return both


def pairs_by_bits(n, bits):
    return [pair for place, pair in enumerate(possible_pairs(n)) if bits >> place & 1]


def scattered(count, bits):
    """So many numbers of so many bits, the same each time, about a third of their bits set."""
    numbers = scattered_numbers(count * bits)
    rows = []
    for place in range(count):
        row = 0
        for number in numbers[place * bits:(place + 1) * bits]:
            row = row * 2 + (1 if number % 3 == 0 else 0)
        rows.append(row)
    return rows


class SmallWebs(unittest.TestCase):
    def check(self, n, pairs):
        links = [number for food, eater in pairs for number in (food, eater, food * 7 + eater)]
        both = calls_and_answers(n, pairs)
        given = ask(web(n, links), *[call for call, want in both], told())
        self.assertEqual(given[0], [0])
        for (call, want), got in zip(both, given[1:]):
            self.assertEqual(got, want, (n, pairs, call))
        self.assertEqual(given[-1], [n, len(pairs)] + links)
        self.check_fractions(n, links)

    def check_fractions(self, n, links):
        weights = {(food, eater): w for food, eater, w in zip(links[::3], links[1::3], links[2::3])}
        given = ask(web(n, links), alive([]), levels(), *[through(j) for j in range(1, n + 1)])
        if given[1][0] < n:
            self.assertEqual(given[2:], [[-7]] * (n + 1))
            return
        self.assertTrue(fits_levels(n, weights, given[2]), (n, links, given[2]))
        for j in range(1, n + 1):
            self.assertTrue(fits_through(n, weights, j, given[2 + j]), (n, links, j, given[2 + j]))

    def test_every_web_of_up_to_three_kinds(self):
        for n in (1, 2, 3):
            for bits in range(2 ** (n * n)):
                self.check(n, pairs_by_bits(n, bits))

    def test_webs_of_four_kinds(self):
        for bits in range(0, 2 ** 16, 61):
            self.check(4, pairs_by_bits(4, bits))

    def test_webs_of_five_and_six_kinds(self):
        for n in (5, 6):
            for bits in scattered(60, n * n):
                self.check(n, pairs_by_bits(n, bits))

    def test_sparse_webs_of_ten_kinds(self):
        one = scattered(12, 100)
        other = scattered(24, 100)[12:]
        for bits in [a & b for a, b in zip(one, other)]:
            self.check(10, pairs_by_bits(10, bits))


if __name__ == "__main__":
    unittest.main()
