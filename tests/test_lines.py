"""Long lines of all calls in a scattered order, beside a second pond that goes by the words alone."""

import unittest

from foodwebs.pond import answers
from tests.helper import HIGHEST, LOWEST, Reckoning, alive, chains, falls, fits_levels, fits_through, least, levels
from tests.helper import nearest, needed, order, possible_pairs, remove, scattered_numbers, shortest, split, through
from tests.helper import together, told, ways, web, weight, worst

MOST = 5


class SecondPond:
    """Tells for each call whether an answer is the one that the words ask for, and follows the changes."""

    def __init__(self):
        self.n = 1
        self.weights = {(0, 1): 1}

    def accepts(self, call, row):
        number = call[0]
        if number in (3, 4, 5, 6, 7, 8, 10, 12, 13, 15) and not 1 <= call[1] <= self.n:
            return row == [-1]
        if number in (9, 10):
            return self.accepts_fractions(call, row)
        return row == self.wanted(number, call)

    def accepts_fractions(self, call, row):
        if len(Reckoning(self.n, self.weights).before) < self.n:
            return row == [-7]
        if call[0] == 9:
            return fits_levels(self.n, self.weights, row)
        return fits_through(self.n, self.weights, call[1], row)

    def wanted(self, number, call):
        if number == 0:
            return self.web(call[1], call[3:])
        if number == 1:
            return [self.n, len(self.weights)] + self.links()
        if number == 15:
            return self.remove(call[1])
        if number == 16:
            return self.weight(*call[1:])
        reckoning = Reckoning(self.n, self.weights)
        if number == 2:
            return reckoning.alive(call[2:]) if all(1 <= k <= self.n for k in call[2:]) else [-1]
        if number == 11:
            return reckoning.count_chains(call[1]) if 1 <= call[1] <= 60 else [-1]
        if number == 14:
            return reckoning.order()
        names = {3: "falls", 4: "needed", 5: "nearest", 6: "least", 7: "ways", 8: "worst", 12: "shortest",
                 13: "together"}
        return getattr(reckoning, names[number])(call[1])

    def links(self):
        return [number for pair in sorted(self.weights) for number in (*pair, self.weights[pair])]

    def web(self, n, links):
        pairs = list(zip(links[::3], links[1::3]))
        if not set(pairs) <= set(possible_pairs(n)) or len(set(pairs)) < len(pairs):
            return [-1]
        self.n = n
        self.weights = dict(zip(pairs, links[2::3]))
        return [0]

    def remove(self, k):
        if self.n == 1:
            return [-8]
        left = [kind for kind in range(self.n + 1) if kind != k]
        self.weights = {(left.index(food), left.index(eater)): w
                        for (food, eater), w in self.weights.items() if food in left and eater in left}
        self.n -= 1
        return [self.n]

    def weight(self, f, e, w):
        if f not in range(self.n + 1) or e not in range(1, self.n + 1) or w not in range(1001):
            return [-1]
        if f == e:
            return [-9]
        there = 1 if (f, e) in self.weights else 0
        self.weights[(f, e)] = w
        if w == 0:
            self.weights.pop((f, e))
        return [there]


class Scatter:
    """Makes calls out of scattered numbers; now and then one that is out of range."""

    def __init__(self, seed):
        self.numbers = scattered_numbers(20000, seed)

    def draw(self, below):
        return self.numbers.pop() % below

    def kind(self):
        return (LOWEST, HIGHEST)[self.draw(2)] if self.draw(40) == 0 else self.draw(MOST + 1)

    def some_weight(self):
        return (0, 0, 1, 2, 3, 1000, 1001, self.draw(1000))[self.draw(8)]

    def some_web(self):
        n = max(self.draw(MOST), self.draw(MOST)) + 1
        pairs = [pair for pair in possible_pairs(n) if self.draw(2) == 0]
        links = [number for pair in reversed(pairs) for number in (*pair, self.draw(1000) + 1)]
        return web(n, links + [0, 1, 1] if self.draw(3) == 0 else links)

    def call(self):
        number = self.draw(24)
        if number in (0, 23):
            return self.some_web()
        if number == 1:
            return alive([self.draw(MOST) + 1 for place in range(self.draw(4))])
        if number == 2:
            return chains(self.draw(7))
        if number < 7:
            return (told, levels, levels, order)[number - 3]()
        if number < 17:
            some = (falls, needed, nearest, least, ways, worst, through, through, shortest, together)
            return some[number - 7](self.kind())
        if number == 17:
            return remove(self.kind())
        return weight(self.kind(), self.kind(), self.some_weight())


class Lines(unittest.TestCase):
    def check(self, seed):
        scatter = Scatter(seed)
        calls = [scatter.call() for place in range(400)]
        rows = split(answers([number for call in calls for number in call]))
        self.assertEqual(len(rows), 400)
        pond = SecondPond()
        for place, (call, row) in enumerate(zip(calls, rows)):
            self.assertTrue(pond.accepts(call, row), (seed, place, pond.n, pond.weights, call, row))
        return {(call[0], min(row[0], 0)) for call, row in zip(calls, rows)}

    def test_scattered_lines(self):
        seen = set()
        for seed in range(40):
            seen |= self.check(seed)
        # Every call is answered, and every refusal that can be is given by every call that has it.
        refusals = {(call, -1) for call in range(17) if call not in (1, 9, 14)}
        refusals |= {(4, -5), (5, -5), (6, -5), (7, -5), (6, -6), (7, -6), (9, -7), (10, -7), (15, -8), (16, -9)}
        self.assertEqual(seen, refusals | {(call, 0) for call in range(17)})


if __name__ == "__main__":
    unittest.main()
