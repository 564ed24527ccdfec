"""Long lists of mixed calls, the same each time: answers as the model's, coins kept, and refusals without a trace."""

import copy
import random
import unittest
from fractions import Fraction

from fundsjoined.book import Book, all_paid, all_units, units_of
from fundsjoined.schemes import answer_of, answers
from tests.calls import EVERYTHING, HIGHEST, LOWEST, begin, behind, buy, cash_of, count, effect, flat, fund, holders
from tests.calls import holding, last_payment, offer, pay, plain, propose, proxy, result, run, scheme, sell, speaker
from tests.calls import tally, transfer, vote
from tests.model import Model

WALKS = 150

# Of each call the answers that the walks must have met: refusals, 0 for another answer, of count, effect and tally
# their first number.
WANTED = {
    0: (0,), 1: (0, -1, -6, -7, -8, -9), 2: (0, -1, -4, -6, -7), 3: (0, -1, -4, -6, -7), 4: (0, -1, -7, -8, -9),
    5: (0, -1, -6, -8), 6: (0, -1, -4, -5), 7: (0, -1, -4, -5, -6), 8: (1, 2, -1, -4, -5),
    9: (1, 2, 3, -1, -4, -5, -6, -8, -9), 10: (0, -1, -6, -7), 11: (0, -1, -6), 12: (0, -1), 13: (0, -1), 14: (0, -1),
    15: (0, -1), 16: (0, -1, -4), 17: (1, 2, -1, -4), 18: (0, -1, -4), 19: (0, -1, -6, -9),
}


class Walk:
    """A list of calls that go by what the model holds, so that many of them are not refused."""

    def __init__(self, seed):
        self.dice = random.Random(seed)
        self.model = Model()
        self.waiting = []
        self.calls = []
        self.told = []

    def number(self, lowest, highest):
        if self.dice.random() < 0.015:
            return self.dice.choice((lowest - 1, highest + 1, LOWEST, HIGHEST))
        return self.dice.randint(lowest, highest)

    def fund(self):
        return self.number(1, 4) if self.dice.random() < 0.95 else self.number(1, 6)

    def holder(self):
        return self.number(1, 7) if self.dice.random() < 0.9 else self.number(1, 20)

    def scheme(self):
        return self.number(1, max(1, len(self.model.schemes)))

    def scheme_in(self, state):
        """Mostly a scheme in that state, if there is one."""
        fitting = [n for n, scheme in enumerate(self.model.schemes, 1) if scheme["state"] == state]
        return self.dice.choice(fitting) if fitting and self.dice.random() < 0.9 else self.scheme()

    def closing_fund(self):
        """Mostly a fund that is closing, if there is one."""
        closing = [f for f in range(1, 7) if self.model.closing[f]]
        return self.dice.choice(closing) if closing and self.dice.random() < 0.9 else self.fund()

    def holder_in(self, f):
        """Mostly one who has units of the fund, if there is one."""
        having = [h for h in range(1, 21) if f in range(1, 7) and self.model.units[f][h]]
        return self.dice.choice(having) if having and self.dice.random() < 0.8 else self.holder()

    def voter(self, n):
        known = n in range(1, len(self.model.schemes) + 1)
        return self.holder_in(self.model.schemes[n - 1]["a"]) if known else self.holder()

    def had(self, f, h):
        """A number of units that h may have of f."""
        if f not in range(1, 7) or h not in range(1, 21):
            return 1
        units = self.model.units[f][h]
        few = self.dice.randint(1, 9)
        return self.dice.choice((units, units, units - few, units // 2, few, units + 1))

    def not_declared(self, f):
        """How much more may be declared in closing."""
        if f not in range(1, 7):
            return 1
        return self.model.value[f] + sum(self.model.paid[f]) - self.model.declared[f]

    def gain(self, f):
        value = self.model.value[f] if f in range(1, 7) else 0
        few = self.number(-9, 99)
        down = self.not_declared(f)
        usual = (few, few, few * 10 ** 9, value, value // 3, -(value // 3), -(value // 2), 1 - value)
        edges = (-value, -value - 1, -down, -down - 1, 10 ** 12 - value, 10 ** 12 - value + 1)
        return self.dice.choice(usual if self.dice.random() < 0.8 else edges)

    def millionths(self):
        return self.dice.choice((0, 0, 1, 333333, 500000, 999999, 10 ** 6, self.number(0, 10 ** 6)))

    def bought(self):
        return self.dice.choice((self.number(1, 9), self.number(1, 999), self.number(1, 10 ** 9)))

    def trade(self):
        f = self.fund()
        if f in range(1, 7) and not self.model.all_units(f) and self.dice.random() < 0.3:
            return self.dear_units(f)
        if self.dice.random() < 0.5:
            return buy(f, self.holder(), self.bought())
        h = self.holder_in(f)
        if self.dice.random() < 0.4:
            return sell(f, h, self.had(f, h))
        return self.dice.choice((transfer(f, h, self.holder(), self.had(f, h)), result(f, self.gain(f))))

    def dear_units(self, f):
        """Few units worth coins each, so that joins bring cash."""
        h = self.dice.randint(1, 20)
        self.waiting = [sell(f, h, 10 ** 6 - self.dice.randint(1, 30)), result(f, self.dice.randint(1, 2000))]
        return buy(f, h, 1)

    def proposal(self):
        kind = self.dice.choice((1, 1, 1, 2, 2, 2, 3, 3, self.number(1, 3)))
        other = self.number(0, 6) if self.dice.random() < 0.3 else 0 if kind == 3 else self.fund()
        return propose(kind, self.fund(), other, self.millionths(), self.millionths(), self.millionths())

    def on_scheme(self):
        n = self.scheme_in(0)
        # One that fails by what has been said so far mostly waits for more votes.
        likely = 0.02 if self.model.tally(n)[0] == 2 else 0.3
        if self.dice.random() < likely:
            return count(n)
        if self.dice.random() < 0.2:
            return effect(self.scheme_in(1))
        if self.dice.random() < 0.3:
            return proxy(n, self.voter(n), self.voter(n))
        return vote(n, self.voter(n), self.number(0, 1) if self.dice.random() < 0.4 else 1)

    def payment(self):
        if not any(self.model.closing) and self.dice.random() < 0.8:
            return self.on_scheme()
        f = self.closing_fund()
        if self.dice.random() < 0.2:
            return last_payment(f)
        if self.dice.random() < 0.3:
            return result(f, self.gain(f))
        few, most = self.number(1, 9), self.not_declared(f)
        return pay(f, self.dice.choice((few, few, most // 2, most // 3, most, most + 1)))

    def question(self):
        f = self.dice.choice((self.fund(), self.closing_fund()))
        h, n = self.holder_in(f), self.scheme()
        return self.dice.choice((fund(f), holding(f, h), holding(f, h), cash_of(h), holders(f), scheme(n), tally(n),
                                 speaker(n, h), offer(f, self.fund(), h), offer(f, self.fund(), h)))

    def step(self):
        if self.waiting:
            call = self.waiting.pop(0)
        elif self.dice.random() < 0.003:
            call = begin()
        elif self.dice.random() < 0.07:
            call = self.proposal()
        else:
            usual = (self.trade, self.trade, self.on_scheme, self.on_scheme, self.on_scheme)
            call = self.dice.choice(usual + (self.payment, self.question))()
        self.calls.append(call)
        self.told.append(self.model.answer(call))

    def go(self, steps):
        for step in range(steps):
            self.step()
        return self


def kind_of_answer(call, answer):
    return answer[0] if answer[0] < 0 or call[0] in (8, 9, 17) else 0


class Walks(unittest.TestCase):

    def test_answers_are_the_models(self):
        met = set()
        for seed in range(WALKS):
            walk = Walk(seed).go(400)
            self.assertEqual(run(walk.calls), walk.told, seed)
            met |= {(call[0], kind_of_answer(call, answer)) for call, answer in zip(walk.calls, walk.told)}
        # Walks that met few of the answers would show little.
        self.assertEqual({(call, kind) for call, kinds in WANTED.items() for kind in kinds} - met, set())

    def test_all_that_there_is_at_the_end(self):
        for seed in range(WALKS):
            walk = Walk(seed).go(150)
            speakers = [speaker(n, h) for n in (1, 4) for h in range(1, 9)]
            offers = [offer(a, b, h) for a in (1, 2) for b in (2, 3) for h in range(1, 9)]
            calls = EVERYTHING + speakers + offers
            self.assertEqual(behind(walk.calls, calls), [walk.model.answer(call) for call in calls], seed)

    def test_the_list_stays_and_nothing_is_kept(self):
        walks = [flat(Walk(seed).go(400).calls) for seed in range(WALKS // 10)]
        copies = [list(calls) for calls in walks]
        first = [answers(calls) for calls in walks]
        self.assertEqual(walks, copies)
        self.assertEqual([answers(calls) for calls in reversed(walks)], first[::-1])
        self.assertEqual(walks, copies)

    def test_what_is_kept_holds_together(self):
        for seed in range(WALKS // 3):
            book, gains = Book(), 0
            for call in Walk(seed).go(400).calls:
                if call == [0]:
                    book, gains = Book(), 0
                    continue
                was = plain(book)
                answer = answer_of(book, call[0], call[1:])
                if answer[0] < 0 or call[0] >= 12:
                    self.assertEqual(plain(book), was, call)
                elif call[0] == 4:
                    gains += call[2]
                self.check(book, gains)

    def check(self, book, gains):
        for each in book.funds.values():
            self.assertTrue(0 <= each.value <= 10 ** 12)
            self.assertTrue(all_units(each) <= 10 ** 18)
            self.assertTrue(all_units(each) > 0 or (each.value, each.closing) == (0, False))
            self.assertTrue(all_paid(each) <= each.declared <= each.value + all_paid(each))
            self.assertTrue(each.closing or each.declared == 0)
            for held in each.holdings.values():
                self.assertTrue(held.units >= 1 and held.cost >= 0 and held.paid >= 0)
        # Coins come and go by results alone.
        self.assertEqual(sum(book.cash.values()) + sum([each.value for each in book.funds.values()]), gains)


def wealth(book, h):
    """The holder's cash and the exact worth of all their units."""
    held = [each for each in book.funds.values() if each.holdings]
    return book.cash[h] + sum([Fraction(each.value * units_of(each, h), all_units(each)) for each in held])


def units_and_cash(book, f):
    return [(answer_of(book, 13, [f, h])[0], answer_of(book, 14, [h])[1]) for h in range(1, 21)]


class WhatSchemesDo(unittest.TestCase):

    def test_what_is_offered_is_what_comes(self):
        joins = [taken for taken in self.effects() if taken[2].kind == 1]
        self.assertGreater(len(joins), 50)
        for was, now, taken in joins:
            a, b = taken.fund_number, taken.other_number
            offers = [answer_of(was, 19, [a, b, h]) for h in range(1, 21)]
            pairs = zip(units_and_cash(was, b), units_and_cash(now, b))
            self.assertEqual(offers, [[after[0] - before[0], after[1] - before[1]] for before, after in pairs])

    def test_nobody_loses_a_coin(self):
        for was, now, taken in self.effects():
            before = [wealth(was, h) for h in range(1, 21)]
            after = [wealth(now, h) for h in range(1, 21)]
            if taken.kind != 1:
                self.assertEqual(after, before)
            for h in range(1, 21):
                self.assertGreater(after[h - 1], before[h - 1] - 1)
                if units_of(was.funds[taken.fund_number], h) == 0:
                    self.assertGreaterEqual(after[h - 1], before[h - 1])

    def effects(self):
        """Of many walks each effect: the book before, the book behind, and the scheme."""
        found = []
        for seed in range(WALKS // 3):
            book = Book()
            for call in Walk(seed).go(400).calls:
                if call == [0]:
                    book = Book()
                    continue
                was = copy.deepcopy(book) if call[0] == 9 else None
                if answer_of(book, call[0], call[1:])[0] > 0 and call[0] == 9:
                    found.append((was, copy.deepcopy(book), was.schemes[call[1]]))
        return found


if __name__ == "__main__":
    unittest.main()
