"""What the tests share: how a line is written, how answers are split, and a slow second reckoning.

The second reckoning goes by the document's words alone: it lists the chains
from the sun and asks them, where the program walks the web.
"""

from fractions import Fraction
from itertools import combinations
from math import gcd

from foodwebs.pond import answers

LOWEST = -9223372036854775808
HIGHEST = 9223372036854775807


def web(n, links):
    return [0, n, len(links)] + list(links)


def told():
    return [1]


def alive(kinds):
    return [2, len(kinds)] + list(kinds)


def falls(k):
    return [3, k]


def needed(k):
    return [4, k]


def nearest(k):
    return [5, k]


def least(k):
    return [6, k]


def ways(k):
    return [7, k]


def worst(m):
    return [8, m]


def levels():
    return [9]


def through(j):
    return [10, j]


def chains(m):
    return [11, m]


def shortest(k):
    return [12, k]


def together(k):
    return [13, k]


def order():
    return [14]


def remove(k):
    return [15, k]


def weight(f, e, w):
    return [16, f, e, w]


def split(given):
    """The answers of a line, each a list of its own."""
    rows = []
    place = 0
    while place < len(given):
        length = given[place]
        row = given[place + 1:place + 1 + length]
        if length < 1 or len(row) != length:
            raise AssertionError("the counts don't fit: %r" % (given,))
        rows.append(row)
        place += 1 + length
    return rows


def ask(*calls):
    """The answers to these calls behind one another on one object."""
    line = [number for call in calls for number in call]
    rows = split(answers(line))
    if len(rows) != len(calls):
        raise AssertionError("%d calls, %d answers" % (len(calls), len(rows)))
    return rows


def ask_last(*calls):
    return ask(*calls)[-1]


def links_of(pairs, weight=1):
    return [number for food, eater in pairs for number in (food, eater, weight)]


def possible_pairs(n):
    return [(food, eater) for food in range(n + 1) for eater in range(1, n + 1) if food != eater]


def scattered_numbers(count, seed=12345):
    """So many numbers from 0 to 2 ** 31 - 1, the same each time."""
    state = seed
    numbers = []
    for place in range(count):
        state = (state * 6364136223846793005 + 1442695040888963407) % 2 ** 64
        numbers.append(state >> 33)
    return numbers


def fractions_in(row):
    """The fractions that levels or through answer; fails unless they are told as the words tell it."""
    if len(row) != 1 + 2 * row[0]:
        raise AssertionError("not a fraction for each kind: %r" % (row,))
    told_fractions = list(zip(row[1::2], row[2::2]))
    for numerator, denominator in told_fractions:
        if denominator < 1 or gcd(numerator, denominator) != 1:
            raise AssertionError("not in lowest terms: %r" % (row,))
    return [Fraction(*pair) for pair in told_fractions]


def fed(weights, eater, values):
    """The sum, over the kinds that it eats, of share times their value."""
    total = sum(w for (food, other), w in weights.items() if other == eater)
    return sum(Fraction(w, total) * values[food - 1]
               for (food, other), w in weights.items() if other == eater and food != 0)


def fits_levels(n, weights, row):
    """Whether the row fulfils the words' equations of the levels; there's just one that does."""
    values = fractions_in(row)
    return len(values) == n and all(values[k - 1] == 1 + fed(weights, k, values) for k in range(1, n + 1))


def fits_through(n, weights, j, row):
    values = fractions_in(row)
    if len(values) != n or values[j - 1] != 1:
        return False
    return all(values[k - 1] == fed(weights, k, values) for k in range(1, n + 1) if k != j)


class Reckoning:
    """The answers 2 to 8 and 11 to 14; most from all chains from the sun without a kind twice."""

    def __init__(self, n, pairs):
        self.n = n
        self.pairs = sorted(pairs)
        self.chains = {k: [] for k in range(1, n + 1)}
        self.lengthen(0, ())
        self.before = self.living(())

    def lengthen(self, food, chain):
        for other, eater in self.pairs:
            if other == food and eater not in chain:
                self.chains[eater].append(frozenset(chain + (eater,)))
                self.lengthen(eater, chain + (eater,))

    def lives(self, k, gone):
        return any(chain.isdisjoint(gone) for chain in self.chains[k])

    def living(self, gone):
        return [k for k in range(1, self.n + 1) if self.lives(k, gone)]

    def alive(self, kinds):
        row = self.living(kinds)
        return [len(row)] + row

    def needs(self, k):
        return [j for j in range(1, self.n + 1) if j != k and not self.lives(k, (j,))]

    def falls(self, k):
        row = [i for i in self.before if not self.lives(i, (k,))]
        return [len(row)] + row

    def needed(self, k):
        if k not in self.before:
            return [-5]
        return [len(self.needs(k))] + self.needs(k)

    def nearest(self, k):
        if k not in self.before:
            return [-5]
        row = self.needs(k)
        if not row:
            return [0]
        found = [j for j in row if set(row) - {j} <= set(self.needs(j))]
        if len(found) != 1:
            raise AssertionError("not just one nearest: %r" % (found,))
        return found

    def least(self, k):
        if k not in self.before:
            return [-5]
        if (0, k) in self.pairs:
            return [-6]
        others = [j for j in range(1, self.n + 1) if j != k]
        for size in range(self.n):
            for row in combinations(others, size):
                if not self.lives(k, row):
                    return [size] + list(row)
        raise AssertionError("no set brings %d down" % k)

    def ways(self, k):
        if k not in self.before:
            return [-5]
        if (0, k) in self.pairs:
            return [-6]
        inner = sorted({chain - {k} for chain in self.chains[k]}, key=sorted)
        return [most_apart(inner)]

    def worst(self, m):
        best = None
        for row in combinations(range(1, self.n + 1), m):
            fallen = sum(1 for k in self.before if not self.lives(k, row))
            if best is None or fallen > best[0]:
                best = [fallen] + list(row)
        return best


    def count_chains(self, m):
        ends = [0]
        for link in range(m):
            ends = [eater for end in ends for food, eater in self.pairs if food == end]
        return [self.n] + [ends.count(k) for k in range(1, self.n + 1)]

    def shortest(self, k):
        return [min((len(chain) for chain in self.chains[k]), default=0)]

    def together(self, k):
        comes = set(self.pairs)
        for middle in range(1, self.n + 1):
            comes |= {(a, b) for a, c in comes if c == middle for d, b in comes if d == middle}
        row = [j for j in range(1, self.n + 1) if j == k or {(j, k), (k, j)} <= comes]
        return [len(row)] + row

    def order(self):
        row = []
        while True:
            for kind in range(1, self.n + 1):
                foods = {food for food, eater in self.pairs if eater == kind}
                if kind not in row and foods <= {0, *row}:
                    row.append(kind)
                    break
            else:
                return [len(row)] + row


def most_apart(sets):
    """The greatest number of these sets of which no two have a member in common."""
    most = 0
    for place, first in enumerate(sets):
        rest = [other for other in sets[place + 1:] if other.isdisjoint(first)]
        most = max(most, 1 + most_apart(rest))
    return most
