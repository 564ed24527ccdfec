import unittest

from tests.calls import CLOSE, DIVIDE, HIGHEST, JOIN, LOWEST, MILLION, MOST_UNITS, MOST_VALUE, Asking
from tests.calls import begin, behind, book_after, buy, cash_of, count, effect, fund, holders, holding, last
from tests.calls import last_payment, offer, passed, pay, plain, propose, proxy, result, run, scheme, sell, speaker
from tests.calls import tally, transfer, vote

# Fund 1 of 100 coins; holder 1 has 4 of 7 parts, holder 2 has 3.
TWO = [buy(1, 1, 4), buy(1, 2, 3), result(1, 93)]
CLOSING = TWO + passed(1, CLOSE, 1, 0, 0, 1) + [effect(1)]
# Fund 1 with the most units and the highest value; holder 1 has a thousandth.
FULL = [buy(1, 1, 10 ** 9), result(1, 1 - 10 ** 9), buy(1, 2, 999), result(1, MOST_VALUE - 1000)]
# Fund 2 with 10 units of holder 2 and 5 of holder 3, each worth 10 coins.
DEAR = [buy(2, 2, 1), sell(2, 2, 999990), result(2, 99), buy(2, 3, 50)]
# Units of fund 1: 3000000 and 1000000, worth 107 coins in all.
CHEAP = [buy(1, 1, 3), buy(1, 2, 1), result(1, 103)]
# Fund 2 with units, and value 0.
WORTHLESS = [buy(2, 3, 1), result(2, -1)]


class Questions(Asking, unittest.TestCase):

    def test_nothing_changes(self):
        before = DEAR + CLOSING + [pay(1, 10), propose(JOIN, 2, 3), vote(2, 2, 1), proxy(2, 3, 2)]
        was = plain(book_after(before))
        for call in (fund(1), holding(1, 1), holding(1, 9), cash_of(1), holders(1), holders(6), scheme(2), tally(1),
                     tally(2), speaker(2, 3), speaker(2, 9), offer(1, 2, 1), offer(2, 6, 9)):
            self.assertGreaterEqual(last(before + [call])[0], 0)
            self.assertEqual(plain(book_after(before + [call, call])), was, call)
            self.assertEqual(run(before + [call, call])[-1], last(before + [call]))

    def test_all_of_a_new_object(self):
        for before in ([], FULL + [propose(CLOSE, 1, 0), begin()]):
            for f in range(1, 7):
                self.assertEqual(behind(before, [fund(f), holding(f, 20), holders(f)]),
                                 [[0, 0, 0, 0, 0, 0], [0, 0, 0, 0], [0]])
            self.assertEqual(behind(before, [cash_of(h) for h in range(1, 21)]), [[0, 0]] * 20)
            self.assertEqual(behind(before, [scheme(1), tally(1), speaker(1, 1), offer(1, 2, 1)]),
                             [[-4], [-4], [-4], [-9]])


class OnFund(Asking, unittest.TestCase):

    def test_before_during_and_behind_a_closing(self):
        calls = TWO + [fund(1)] + passed(1, CLOSE, 1, 0, 0, 1)
        calls += [fund(1), effect(1), fund(1), pay(1, 10), fund(1), result(1, -50), fund(1), pay(1, 2), fund(1),
                  last_payment(1), fund(1), buy(1, 5, 2), fund(1)]
        self.assertEqual([answer for answer in run(calls) if len(answer) == 6],
                         [[100, 7000000, 2, 0, 0, 0], [100, 7000000, 2, 0, 0, 0], [100, 7000000, 2, 1, 0, 0],
                          [91, 7000000, 2, 1, 10, 9], [41, 7000000, 2, 1, 10, 9], [39, 7000000, 2, 1, 12, 11],
                          [0, 0, 0, 0, 0, 0], [2, 2000000, 1, 0, 0, 0]])

    def test_how_many_holdings(self):
        calls = [buy(1, 1, 4), buy(1, 1, 4), fund(1), transfer(1, 1, 2, 1), fund(1), sell(1, 1, 7999999), fund(1),
                 sell(1, 2, 1), fund(1)]
        self.assertEqual(run(calls)[2::2], [[8, 8000000, 1, 0, 0, 0], [8, 8000000, 2, 0, 0, 0], [1, 1, 1, 0, 0, 0],
                                            [0, 0, 0, 0, 0, 0]])
        everybody = [buy(1, h, 1) for h in range(1, 21)]
        self.assertEqual(last(everybody + [fund(1)]), [20, 20000000, 20, 0, 0, 0])

    def test_behind_a_join_and_a_division(self):
        joined = TWO + passed(1, JOIN, 1, 2, 0, 1) + [effect(1)]
        self.assertEqual(behind(joined, [fund(1), fund(2)]), [[0, 0, 0, 0, 0, 0], [100, 7000000, 2, 0, 0, 0]])
        divided = TWO + passed(1, DIVIDE, 1, 2, 333333, 1) + [effect(1)]
        self.assertEqual(behind(divided, [fund(1), fund(2)]),
                         [[67, 7000000, 2, 0, 0, 0], [33, 7000000, 2, 0, 0, 0]])

    def test_the_most(self):
        self.assertEqual(last(FULL + [fund(1)]), [MOST_VALUE, MOST_UNITS, 2, 0, 0, 0])

    def test_units_without_value(self):
        self.assertEqual(last(WORTHLESS + [fund(2)]), [0, 1000000, 1, 0, 0, 0])

    def test_each_fund_by_itself(self):
        before = [buy(f, f, f) for f in range(1, 7)]
        self.assertEqual(behind(before, [fund(f) for f in range(1, 7)]),
                         [[f, f * MILLION, 1, 0, 0, 0] for f in range(1, 7)])

    def test_ranges(self):
        self.assert_range(TWO, fund(1), 1, 1, 6)


class OnHolding(Asking, unittest.TestCase):

    def test_before_during_and_behind_a_closing(self):
        calls = TWO + [holding(1, 1), holding(1, 2)] + passed(1, CLOSE, 1, 0, 0, 1)
        calls += [effect(1), holding(1, 1), pay(1, 10), holding(1, 1), holding(1, 2), result(1, -50), holding(1, 1),
                  pay(1, 2), holding(1, 1), holding(1, 2), last_payment(1), holding(1, 1), buy(1, 1, 2), holding(1, 1)]
        # Worths: 57 and 1/7, 42 and 6/7; of 91 just 52 and 39; of 41 23 and 3/7; of 39 22 and 2/7, 16 and 5/7.
        told = [answer for call, answer in zip(calls, run(calls)) if call[0] == 13]
        self.assertEqual(told, [[4000000, 4, 0, 57], [3000000, 3, 0, 42], [4000000, 4, 0, 57], [4000000, 4, 5, 52],
                                [3000000, 3, 4, 39], [4000000, 4, 5, 23], [4000000, 4, 6, 22], [3000000, 3, 5, 16],
                                [0, 0, 0, 0], [2000000, 2, 0, 2]])

    def test_of_one_without_units(self):
        self.assertEqual(behind(TWO, [holding(1, 3), holding(2, 1), holding(6, 20)]), [[0, 0, 0, 0]] * 3)
        self.assertEqual(behind(CLOSING + [pay(1, 10)], [holding(1, 3)]), [[0, 0, 0, 0]])
        self.assertEqual(last(TWO + [sell(1, 1, 4000000), holding(1, 1)]), [0, 0, 0, 0])
        self.assertEqual(last(TWO + [transfer(1, 1, 3, 4000000), holding(1, 1)]), [0, 0, 0, 0])

    def test_units_without_value(self):
        self.assertEqual(last(WORTHLESS + [holding(2, 3)]), [1000000, 1, 0, 0])

    def test_a_unit_of_many(self):
        before = TWO + [transfer(1, 1, 3, 1), transfer(1, 1, 4, 70000), transfer(1, 2, 5, 69999)]
        self.assertEqual(behind(before, [holding(1, h) for h in range(1, 6)]),
                         [[3929999, 4, 0, 56], [2930001, 3, 0, 41], [1, 0, 0, 0], [70000, 0, 0, 1], [69999, 0, 0, 0]])

    def test_the_cost_goes_with_the_units(self):
        before = TWO + [sell(1, 1, 1000001), transfer(1, 2, 1, 1500000)]
        self.assertEqual(behind(before, [holding(1, 1), holding(1, 2)]),
                         [[4499999, 4, 0, 64], [1500000, 2, 0, 21]])

    def test_behind_a_join_and_a_division(self):
        joined = DEAR + CHEAP + passed(1, JOIN, 1, 2, 0, 1) + [effect(1)]
        # 251 coins for 25 units.
        self.assertEqual(behind(joined, [holding(2, 1), holding(2, 2), holding(2, 3), holding(1, 1)]),
                         [[8, 3, 0, 80], [12, 1, 0, 120], [5, 50, 0, 50], [0, 0, 0, 0]])
        divided = TWO + passed(1, DIVIDE, 1, 2, 333333, 1) + [effect(1)]
        self.assertEqual(behind(divided, [holding(1, 1), holding(2, 1), holding(1, 2), holding(2, 2)]),
                         [[4000000, 3, 0, 38], [4000000, 1, 0, 18], [3000000, 3, 0, 28], [3000000, 0, 0, 14]])

    def test_products_beyond_64_bits(self):
        self.assertEqual(behind(FULL, [holding(1, 1), holding(1, 2)]),
                         [[10 ** 15, 10 ** 9, 0, 10 ** 9], [999 * 10 ** 15, 999, 0, 999 * 10 ** 9]])
        self.assertEqual(last(FULL + [result(1, -1), transfer(1, 2, 3, 1), holding(1, 2)]),
                         [999 * 10 ** 15 - 1, 999, 0, 999 * 10 ** 9 - 1])

    def test_ranges(self):
        self.assert_range(TWO, holding(1, 1), 1, 1, 6)
        self.assert_range(TWO, holding(1, 1), 2, 1, 20)
        self.assert_refused(TWO, holding(0, 21), -1)


class OnCash(Asking, unittest.TestCase):

    def test_below_and_above(self):
        calls = [cash_of(1), buy(1, 1, 5), cash_of(1), result(1, 8), sell(1, 1, 3000000), cash_of(1),
                 sell(1, 1, 2000000), cash_of(1), cash_of(2)]
        self.assertEqual([answer for call, answer in zip(calls, run(calls)) if call[0] == 14],
                         [[0, 0], [0, -5], [0, 2], [0, 8], [0, 0]])

    def test_one_below(self):
        self.assertEqual(last([buy(1, 20, 1), cash_of(20)]), [0, -1])

    def test_far_below_and_far_above(self):
        self.assertEqual(last([buy(1, 1, 10 ** 9)] * 300 + [cash_of(1)]), [0, -300 * 10 ** 9])
        rich = [buy(1, 1, 1), result(1, MOST_VALUE - 1), sell(1, 1, MILLION)]
        self.assertEqual(last(rich * 50 + [cash_of(1)]), [0, 50 * (MOST_VALUE - 1)])

    def test_of_joins_and_payments(self):
        joined = DEAR + CHEAP + passed(1, JOIN, 1, 2, 0, 1) + [effect(1)]
        self.assertEqual(behind(joined, [cash_of(1), cash_of(2), cash_of(3)]), [[0, -3], [0, 4], [0, -50]])
        self.assertEqual(behind(CLOSING, [pay(1, 10), cash_of(1), last_payment(1), cash_of(1), cash_of(2)])[1::2],
                         [[0, 1], [0, 53]])
        self.assertEqual(last(CLOSING + [pay(1, 10), last_payment(1), cash_of(2)]), [0, 40])

    def test_ranges(self):
        self.assert_range(TWO, cash_of(1), 1, 1, 20)


class OnHolders(Asking, unittest.TestCase):

    def test_by_their_numbers(self):
        calls = [buy(1, h, 1) for h in (20, 3, 11, 1, 7)] + [transfer(1, 3, 2, 400000), sell(1, 11, MILLION)]
        self.assertEqual(last(calls + [holders(1)]),
                         [5, 1, 1000000, 2, 400000, 3, 600000, 7, 1000000, 20, 1000000])
        self.assertEqual(last(calls + [buy(1, 11, 1), holders(1)]),
                         [6, 1, 1000000, 2, 400000, 3, 600000, 7, 1000000, 11, 1000000, 20, 1000000])

    def test_everybody(self):
        calls = [buy(6, h, h) for h in range(20, 0, -1)] + [holders(6)]
        self.assertEqual(last(calls), [20] + [number for h in range(1, 21) for number in (h, h * MILLION)])

    def test_behind_a_join_and_a_division(self):
        before = [buy(1, 9, 1), buy(1, 2, 2), buy(2, 5, 3)]
        joined = before + passed(1, JOIN, 1, 2, 0, 9) + [effect(1)]
        self.assertEqual(behind(joined, [holders(1), holders(2)]), [[0], [3, 2, 2000000, 5, 3000000, 9, 1000000]])
        divided = before + passed(1, DIVIDE, 1, 3, 0, 9) + [effect(1)]
        self.assertEqual(behind(divided, [holders(1), holders(3)]), [[2, 2, 2000000, 9, 1000000]] * 2)

    def test_in_closing_and_behind_it(self):
        self.assertEqual(behind(CLOSING, [holders(1), pay(1, 10), holders(1), last_payment(1), holders(1)])[::2],
                         [[2, 1, 4000000, 2, 3000000], [2, 1, 4000000, 2, 3000000], [0]])

    def test_a_join_that_brings_no_unit(self):
        joined = DEAR + [buy(1, 5, 9)] + passed(1, JOIN, 1, 2, 0, 5) + [effect(1), holders(2)]
        self.assertEqual(last(joined), [2, 2, 10, 3, 5])

    def test_the_most(self):
        self.assertEqual(last(FULL + [holders(1)]), [2, 1, 10 ** 15, 2, 999 * 10 ** 15])

    def test_ranges(self):
        self.assert_range(TWO, holders(1), 1, 1, 6)


class OnSchemeNumber(Asking):
    """What the questions on a scheme have in common; call(n) is an otherwise good one."""

    def test_the_scheme_number(self):
        before = TWO + [propose(JOIN, 1, 2)]
        for n in (0, -1, MILLION + 1, LOWEST, HIGHEST):
            self.assert_refused(before, self.call(n), -1)
        for n in (2, 20, 21, MILLION):
            self.assert_refused(before, self.call(n), -4)
        self.assert_refused(TWO, self.call(1), -4)
        self.assert_refused(before + [begin()], self.call(1), -4)
        twenty = [propose(JOIN, 1, 2)] * 20
        self.assertGreaterEqual(last(twenty + [self.call(20)])[0], 0)
        self.assert_refused(twenty, self.call(21), -4)


class OnScheme(OnSchemeNumber, unittest.TestCase):

    def call(self, n):
        return scheme(n)

    def test_as_proposed(self):
        before = [propose(JOIN, 1, 6, 1, 2, 3), propose(DIVIDE, 6, 1, MILLION, 0, MILLION),
                  propose(CLOSE, 4, 0, 7, 8, 9)]
        self.assertEqual(behind(before, [scheme(1), scheme(2), scheme(3)]),
                         [[1, 1, 6, 1, 2, 3, 0, 0, 0], [2, 6, 1, MILLION, 0, MILLION, 0, 0, 0],
                          [3, 4, 0, 7, 8, 9, 0, 0, 0]])

    def test_each_state(self):
        for kind, other in ((JOIN, 2), (DIVIDE, 2), (CLOSE, 0)):
            calls = TWO + [propose(kind, 1, other, 5, 6, 7), vote(1, 1, 1), scheme(1), count(1), scheme(1), effect(1),
                           scheme(1)]
            told = [answer for call, answer in zip(calls, run(calls)) if call[0] == 16]
            self.assertEqual(told, [[kind, 1, other, 5, 6, 7, state, 1, 0] for state in (0, 1, 3)])
            self.assertEqual(last(TWO + [propose(kind, 1, other), count(1), scheme(1)]),
                             [kind, 1, other, 0, 0, 0, 2, 0, 0])

    def test_an_effect_that_is_refused(self):
        calls = TWO + WORTHLESS + passed(1, JOIN, 1, 2, 0, 1) + [effect(1), scheme(1)]
        self.assertEqual(run(calls)[-2:], [[-9], [1, 1, 2, 0, 0, 0, 1, 1, 0]])

    def test_how_many_voted_and_named(self):
        steps = [(vote(1, 1, 1), 1, 0), (vote(1, 1, 0), 1, 0), (vote(1, 9, 0), 2, 0), (proxy(1, 2, 1), 2, 1),
                 (proxy(1, 2, 3), 2, 1), (proxy(1, 1, 2), 2, 2), (vote(1, 2, 1), 3, 2), (proxy(1, 3, 3), 3, 2),
                 (vote(1, 21, 1), 3, 2), (vote(2, 4, 1), 3, 2), (proxy(2, 5, 6), 3, 2)]
        before = TWO + [propose(CLOSE, 1, 0), propose(CLOSE, 1, 0)]
        for call, voted, named in steps:
            before = before + [call]
            self.assertEqual(last(before + [scheme(1)]), [3, 1, 0, 0, 0, 0, 0, voted, named], call)
        self.assertEqual(last(before + [scheme(2)]), [3, 1, 0, 0, 0, 0, 0, 1, 1])
        # Votes that come too late don't count.
        self.assertEqual(last(before + [count(1), vote(1, 7, 1), proxy(1, 8, 1), scheme(1)]),
                         [3, 1, 0, 0, 0, 0, 1, 3, 2])

    def test_everybody_voted_and_named(self):
        calls = [propose(CLOSE, 1, 0)] + [vote(1, h, 0) for h in range(1, 21)]
        calls += [proxy(1, h, h % 20 + 1) for h in range(1, 21)]
        self.assertEqual(last(calls + [scheme(1)]), [3, 1, 0, 0, 0, 0, 0, 20, 20])


class OnTally(OnSchemeNumber, unittest.TestCase):

    def call(self, n):
        return tally(n)

    def test_before_the_count_as_the_count(self):
        for votes in ([], [vote(1, 1, 1)], [vote(1, 1, 0), vote(1, 2, 1)], [proxy(1, 1, 2), vote(1, 2, 1)]):
            for quorum, need in ((0, 0), (500000, 0), (600000, 0), (0, 500000), (MILLION, MILLION)):
                before = TWO + [propose(CLOSE, 1, 0, 0, quorum, need)] + votes
                told = behind(before, [tally(1), tally(1), count(1), tally(1)])
                self.assertEqual(told, [told[0]] * 4)

    def test_passes_or_not(self):
        self.assertEqual(last(TWO + [propose(CLOSE, 1, 0), tally(1)]), [2, 0, 0, 7000000])
        before = TWO + [propose(CLOSE, 1, 0, 0, 571428, 0), vote(1, 1, 1)]
        self.assertEqual(last(before + [tally(1)]), [1, 4000000, 4000000, 7000000])
        before = TWO + [propose(CLOSE, 1, 0, 0, 571429, 0), vote(1, 1, 1)]
        self.assertEqual(last(before + [tally(1)]), [2, 4000000, 4000000, 7000000])
        before = TWO + [propose(CLOSE, 1, 0, 0, 0, 428571), vote(1, 1, 0), vote(1, 2, 1)]
        self.assertEqual(last(before + [tally(1)]), [1, 7000000, 3000000, 7000000])
        before = TWO + [propose(CLOSE, 1, 0, 0, 0, 428572), vote(1, 1, 0), vote(1, 2, 1)]
        self.assertEqual(last(before + [tally(1)]), [2, 7000000, 3000000, 7000000])

    def test_by_the_units_as_they_are_now(self):
        before = TWO + [propose(CLOSE, 1, 0), vote(1, 1, 1), count(1)]
        self.assertEqual(behind(before, [transfer(1, 1, 2, 4000000), tally(1), scheme(1), transfer(1, 2, 1, 5000000),
                                         tally(1)])[1::3],
                         [[2, 0, 0, 7000000], [1, 5000000, 5000000, 7000000]])
        failed = TWO + [propose(CLOSE, 1, 0, 0, 600000), vote(1, 1, 1), count(1)]
        self.assertEqual(behind(failed, [transfer(1, 2, 1, 1000000), tally(1), scheme(1)]),
                         [[1], [1, 5000000, 5000000, 7000000], [3, 1, 0, 0, 600000, 0, 2, 1, 0]])

    def test_behind_a_join(self):
        joined = TWO + [buy(2, 2, 1)] + passed(1, JOIN, 1, 2, 0, 1) + [propose(CLOSE, 2, 0), vote(2, 1, 1), effect(1)]
        # 57 and 1/7 coins are 57142857 units of fund 2, 42 and 6/7 coins 42857142.
        self.assertEqual(behind(joined, [tally(1), tally(2)]),
                         [[2, 0, 0, 0], [1, 57142857, 57142857, 57142857 + 42857142 + 1000000]])

    def test_behind_a_division(self):
        divided = TWO + passed(1, DIVIDE, 1, 2, 500000, 1) + [propose(CLOSE, 2, 0), vote(2, 2, 1), effect(1)]
        self.assertEqual(behind(divided, [tally(1), tally(2)]),
                         [[1, 4000000, 4000000, 7000000], [1, 3000000, 3000000, 7000000]])

    def test_in_closing_and_behind_it(self):
        before = CLOSING + [propose(JOIN, 1, 2), vote(2, 2, 1)]
        self.assertEqual(behind(before, [tally(1), pay(1, 10), tally(2), last_payment(1), tally(1), tally(2)]),
                         [[1, 4000000, 4000000, 7000000], [9], [1, 3000000, 3000000, 7000000], [91],
                          [2, 0, 0, 0], [2, 0, 0, 0]])
        self.assertEqual(behind(before, [last_payment(1), buy(1, 1, 1), tally(1), tally(2)])[2:],
                         [[1, 1000000, 1000000, 1000000], [2, 0, 0, 1000000]])

    def test_of_a_fund_without_units(self):
        self.assertEqual(last([propose(CLOSE, 1, 0), vote(1, 1, 1), tally(1)]), [2, 0, 0, 0])

    def test_products_beyond_64_bits(self):
        halves = [transfer(1, 2, 1, 499 * 10 ** 15), propose(CLOSE, 1, 0, 0, 500000, MILLION), vote(1, 1, 1)]
        half = MOST_UNITS // 2
        self.assertEqual(last(FULL + halves + [tally(1)]), [1, half, half, MOST_UNITS])
        self.assertEqual(last(FULL + halves + [transfer(1, 1, 2, 1), tally(1)]), [2, half - 1, half - 1, MOST_UNITS])


class OnSpeaker(OnSchemeNumber, unittest.TestCase):

    def call(self, n):
        return speaker(n, 1)

    def spoken_for(self, *calls):
        """Who speaks for the holders 1 to 5, and for 20."""
        before = TWO + [propose(CLOSE, 1, 0)] + list(calls)
        return [answer[0] for answer in behind(before, [speaker(1, h) for h in (1, 2, 3, 4, 5, 20)])]

    def test_nobody(self):
        self.assertEqual(self.spoken_for(), [0, 0, 0, 0, 0, 0])

    def test_one_who_voted(self):
        self.assertEqual(self.spoken_for(vote(1, 1, 1), vote(1, 2, 0)), [1, 2, 0, 0, 0, 0])
        self.assertEqual(self.spoken_for(vote(1, 2, 0), vote(1, 20, 1)), [0, 2, 0, 0, 0, 20])

    def test_one_who_named_another(self):
        self.assertEqual(self.spoken_for(proxy(1, 1, 3), vote(1, 3, 0)), [3, 0, 3, 0, 0, 0])
        self.assertEqual(self.spoken_for(vote(1, 3, 0), proxy(1, 20, 3)), [0, 0, 3, 0, 0, 3])

    def test_one_who_voted_and_named(self):
        self.assertEqual(self.spoken_for(proxy(1, 1, 2), vote(1, 1, 0), vote(1, 2, 1)), [1, 2, 0, 0, 0, 0])
        self.assertEqual(self.spoken_for(vote(1, 1, 0), vote(1, 2, 1), proxy(1, 1, 2)), [1, 2, 0, 0, 0, 0])

    def test_a_chain_stops_at_the_first_who_voted(self):
        chain = [proxy(1, 1, 2), proxy(1, 2, 3), proxy(1, 3, 4), proxy(1, 4, 5)]
        self.assertEqual(self.spoken_for(*chain, vote(1, 5, 1)), [5, 5, 5, 5, 5, 0])
        self.assertEqual(self.spoken_for(*chain, vote(1, 5, 1), vote(1, 3, 0)), [3, 3, 3, 5, 5, 0])

    def test_a_chain_to_one_who_is_silent(self):
        chain = [proxy(1, 1, 2), proxy(1, 2, 3), proxy(1, 3, 20)]
        self.assertEqual(self.spoken_for(*chain, vote(1, 4, 1)), [0, 0, 0, 4, 0, 0])

    def test_named_anew(self):
        votes = [vote(1, 2, 1), vote(1, 3, 1)]
        self.assertEqual(self.spoken_for(*votes, proxy(1, 1, 2), proxy(1, 1, 3)), [3, 2, 3, 0, 0, 0])
        self.assertEqual(self.spoken_for(*votes, proxy(1, 1, 2), proxy(1, 1, 4)), [0, 2, 3, 0, 0, 0])

    def test_chains_that_come_round(self):
        self.assertEqual(self.spoken_for(proxy(1, 1, 2), proxy(1, 2, 1)), [0, 0, 0, 0, 0, 0])
        self.assertEqual(self.spoken_for(proxy(1, 1, 2), proxy(1, 2, 3), proxy(1, 3, 2), vote(1, 4, 1)),
                         [0, 0, 0, 4, 0, 0])
        self.assertEqual(self.spoken_for(proxy(1, 1, 2), proxy(1, 2, 3), proxy(1, 3, 2), vote(1, 3, 1)),
                         [3, 3, 3, 0, 0, 0])

    def test_the_longest_chains(self):
        up = [propose(CLOSE, 1, 0)] + [proxy(1, h, h + 1) for h in range(1, 20)]
        down = [propose(CLOSE, 1, 0)] + [proxy(1, h, h - 1) for h in range(2, 21)]
        everybody = [speaker(1, h) for h in range(1, 21)]
        self.assertEqual(behind(up, everybody), [[0]] * 20)
        self.assertEqual(behind(up + [vote(1, 20, 0)], everybody), [[20]] * 20)
        self.assertEqual(behind(up + [vote(1, 10, 0)], everybody), [[10]] * 10 + [[0]] * 10)
        self.assertEqual(behind(up + [proxy(1, 20, 1)], everybody), [[0]] * 20)
        self.assertEqual(behind(up + [proxy(1, 20, 1), vote(1, 7, 1)], everybody), [[7]] * 20)
        self.assertEqual(behind(down + [vote(1, 1, 1)], everybody), [[1]] * 20)

    def test_units_do_not_matter(self):
        self.assertEqual(behind([propose(CLOSE, 1, 0), proxy(1, 8, 9), vote(1, 9, 1)], [speaker(1, 8), speaker(1, 9)]),
                         [[9], [9]])

    def test_of_one_scheme_alone(self):
        before = [propose(CLOSE, 1, 0), propose(CLOSE, 1, 0), proxy(1, 1, 2), vote(2, 2, 1)]
        self.assertEqual(behind(before, [speaker(1, 1), speaker(2, 1), speaker(2, 2)]), [[0], [0], [2]])

    def test_in_each_state(self):
        before = TWO + [propose(CLOSE, 1, 0), proxy(1, 2, 1)]
        done = [vote(1, 1, 1), speaker(1, 2), count(1), speaker(1, 2), effect(1), speaker(1, 2), last_payment(1),
                speaker(1, 2)]
        self.assertEqual(behind(before, done)[1::2], [[1]] * 4)
        self.assertEqual(behind(before, [vote(1, 1, 0), count(1), speaker(1, 2)])[2], [1])

    def test_ranges(self):
        self.assert_range([propose(CLOSE, 1, 0)], speaker(1, 1), 2, 1, 20)

    def test_refusals_in_their_order(self):
        self.assert_refused([propose(CLOSE, 1, 0)], speaker(2, 21), -1)
        self.assert_refused([propose(CLOSE, 1, 0)], speaker(0, 0), -1)
        self.assert_refused([propose(CLOSE, 1, 0)], speaker(0, 1), -1)
        self.assert_refused([propose(CLOSE, 1, 0)], speaker(2, 20), -4)


class OnOffer(Asking, unittest.TestCase):

    def offers(self, before, a, b):
        return behind(before, [offer(a, b, h) for h in range(1, 21)])

    def test_units_and_cash(self):
        # Holder 1: 80.25 coins are 8 units; holder 2: 26.75 coins are 2 units and 6 coins.
        self.assertEqual(self.offers(DEAR + CHEAP, 1, 2), [[8, 0], [2, 6]] + [[0, 0]] * 18)
        # The other way: 100 coins are 3738317 units, 50 coins 1869158, and nearly a unit isn't a coin.
        self.assertEqual(self.offers(DEAR + CHEAP, 2, 1)[:4], [[0, 0], [3738317, 0], [1869158, 0], [0, 0]])

    def test_cash_alone(self):
        self.assertEqual(self.offers(DEAR + [buy(1, 5, 9)], 1, 2)[4], [0, 9])
        self.assertEqual(self.offers(DEAR + [buy(1, 5, 10)], 1, 2)[4], [1, 0])
        self.assertEqual(self.offers(DEAR + [buy(1, 5, 19)], 1, 2)[4], [1, 9])

    def test_into_a_fund_without_units(self):
        self.assertEqual(self.offers(TWO, 1, 2), [[4000000, 0], [3000000, 0]] + [[0, 0]] * 18)
        self.assertEqual(self.offers(TWO + [result(1, -100)], 1, 6)[:3], [[4000000, 0], [3000000, 0], [0, 0]])

    def test_of_one_who_holds_nothing(self):
        self.assertEqual(behind(DEAR + CHEAP, [offer(1, 2, 3), offer(1, 2, 20), offer(2, 1, 1)]), [[0, 0]] * 3)

    def test_of_a_fund_without_value(self):
        self.assertEqual(self.offers(DEAR + TWO + [result(1, -100)], 1, 2), [[0, 0]] * 20)

    def test_what_effect_then_does(self):
        spread = [buy(1, h, 7 * h * h % 23 + 1) for h in range(1, 21)]
        for before in (DEAR + CHEAP, DEAR + spread, DEAR + spread + [result(1, 500)], spread, CHEAP,
                       FULL + [result(1, -10 ** 6)] + DEAR,
                       spread + [buy(2, 9, 5), result(2, 8)], spread + [buy(2, 9, 5), sell(2, 9, 4999999)]):
            taken = passed(1, JOIN, 1, 2, 0, 1) + [effect(1)]
            answer = last(before + taken)
            self.assertEqual(answer[0], 1)
            offers = self.offers(before, 1, 2)
            asked = [holding(2, h) for h in range(1, 21)] + [cash_of(h) for h in range(1, 21)]
            was, now = behind(before, asked), behind(before + taken, asked)
            units, coins = zip(*offers)
            self.assertEqual(list(units), [now[k][0] - was[k][0] for k in range(20)])
            self.assertEqual(list(coins), [now[k][1] - was[k][1] for k in range(20, 40)])
            self.assertEqual(answer[1:], [sum(coins), sum(units)])

    def test_in_closing(self):
        # What is refused of a join in closing isn't of an offer.
        closing = DEAR + CHEAP + passed(1, CLOSE, 1, 0, 0, 1) + [effect(1)]
        self.assertEqual(behind(closing, [offer(1, 2, 2), offer(2, 1, 3)]), [[2, 6], [1869158, 0]])
        # 87 coins are left: 65 and 1/4, 21 and 3/4.
        self.assertEqual(behind(closing + [pay(1, 20)], [offer(1, 2, 1), offer(1, 2, 2)]), [[6, 5], [2, 1]])

    def test_without_room(self):
        full = [buy(2, 3, 10 ** 9), result(2, 1 - 10 ** 9), buy(2, 4, 999)]
        self.assertEqual(last(full + [buy(1, 1, 1), offer(1, 2, 1)]), [10 ** 15, 0])
        rich = [buy(2, 3, 1), result(2, MOST_VALUE - 1), buy(1, 1, 10 ** 9)]
        self.assertEqual(last(rich + [offer(1, 2, 1)]), [1000, 0])

    def test_products_beyond_64_bits(self):
        into = FULL + [buy(2, 3, 1), sell(2, 3, 999997), result(2, 6)]
        # A unit is worth 7/3 coins. Holder 1: 10^9 coins are 428571428 units and 4/3 coins.
        # Holder 2: 999 * 10^9 coins are 428142857142 units and 2 coins.
        self.assertEqual(behind(into, [offer(1, 2, 1), offer(1, 2, 2)]), [[428571428, 1], [428142857142, 2]])
        self.assertEqual(behind(into, [offer(2, 1, 3)]), [[7000000, 0]])

    def test_ranges(self):
        self.assert_range(DEAR + CHEAP, offer(1, 2, 1), 1, 1, 6)
        self.assert_range(DEAR + CHEAP, offer(1, 2, 1), 2, 1, 6)
        self.assert_range(DEAR + CHEAP, offer(1, 2, 1), 3, 1, 20)

    def test_the_same_fund(self):
        self.assert_refused(TWO, offer(1, 1, 1), -6)
        self.assert_refused([], offer(6, 6, 1), -6)
        self.assert_refused(WORTHLESS, offer(2, 2, 3), -6)
        self.assert_refused(TWO, offer(1, 1, 0), -1)
        self.assert_refused(TWO, offer(7, 7, 1), -1)

    def test_nothing_to_reckon_by(self):
        self.assert_refused([], offer(1, 2, 1), -9)
        self.assert_refused(TWO, offer(2, 1, 1), -9)
        self.assert_refused(TWO + WORTHLESS, offer(1, 2, 1), -9)
        self.assert_refused(TWO + WORTHLESS, offer(1, 2, 9), -9)
        self.assert_refused(WORTHLESS, offer(1, 2, 1), -9)
        self.assert_refused(TWO + WORTHLESS + [sell(2, 3, 999999)], offer(1, 2, 1), -9)
        self.assert_refused(CLOSING + [last_payment(1), buy(2, 1, 1)], offer(1, 2, 1), -9)
        self.assertEqual(last(TWO + WORTHLESS + [sell(2, 3, 1000000), offer(1, 2, 1)]), [4000000, 0])


if __name__ == "__main__":
    unittest.main()
