import random
import unittest

from tests.calls import CLOSE, DIVIDE, JOIN, MOST_UNITS, MOST_VALUE, Asking
from tests.calls import behind, book_after, buy, cash, cash_of, effect, fund, holders, holding, last, last_payment
from tests.calls import offer, passed, pay, propose, result, run, scheme, sell, tally, transfer, vote

# Fund 1 of 100 coins; holder 1 has 4 of 7 parts, holder 2 has 3.
TWO = [buy(1, 1, 4), buy(1, 2, 3), result(1, 93)]
CLOSED = passed(1, CLOSE, 1, 0, 0, 1) + [effect(1)]
CLOSING = TWO + CLOSED
NEW_FUND = [0, 0, 0, 0, 0, 0]


def closing(coins, value):
    """Fund 1 in closing, with that value; holders 1, 2, 3, .. have units as the coins."""
    bought = [buy(1, h, m) for h, m in enumerate(coins, 1)]
    return bought + [result(1, value - sum(coins))] + CLOSED


def full(value):
    """Fund 1 in closing with the most units: holder 1 has a thousandth, holder 3 one unit, holder 2 the rest."""
    bought = [buy(1, 1, 10 ** 9), result(1, 1 - 10 ** 9), buy(1, 2, 999), transfer(1, 2, 3, 1)]
    return bought + [result(1, value - 1000)] + passed(1, CLOSE, 1, 0, 0, 2) + [effect(1)]


def got(before, calls, most=20):
    """What the calls bring the holders 1, 2, 3, .. in cash."""
    asked = [cash_of(h) for h in range(1, most + 1)]
    was = behind(before, asked)
    return [now[1] - then[1] for now, then in zip(behind(before + calls, asked), was)]


class Pay(Asking, unittest.TestCase):

    def test_one_alone(self):
        # Of 10 coins 5 and 5/7 are holder 1's, 4 and 2/7 holder 2's.
        asked = [pay(1, 10), fund(1), holding(1, 1), holding(1, 2), cash_of(1), cash_of(2)]
        self.assertEqual(behind(CLOSING, asked),
                         [[9], [91, 7000000, 2, 1, 10, 9], [4000000, 4, 5, 52], [3000000, 3, 4, 39], [0, 1], [0, 1]])

    def test_in_turns(self):
        calls = [pay(1, 10), pay(1, 11), pay(1, 1), pay(1, 78)]
        self.assertEqual(behind(CLOSING, calls), [[9], [12], [0], [78]])
        self.assertEqual(got(CLOSING, calls[:2], 3), [12, 9, 0])
        self.assertEqual(got(CLOSING, calls[:3], 3), [12, 9, 0])
        self.assertEqual(got(CLOSING, calls, 3), [57, 42, 0])
        self.assertEqual(last(CLOSING + calls + [fund(1)]), [1, 7000000, 2, 1, 100, 99])

    def test_a_turn_in_which_nobody_is_paid(self):
        self.assertEqual(behind(CLOSING, [pay(1, 1), fund(1), pay(1, 1), fund(1)]),
                         [[0], [100, 7000000, 2, 1, 1, 0], [1], [99, 7000000, 2, 1, 2, 1]])

    def test_a_turn_in_which_some_are_paid(self):
        before = CLOSING + [pay(1, 1)]
        self.assertEqual(got(before, [pay(1, 1)], 3), [1, 0, 0])
        self.assertEqual(got(before + [pay(1, 1)], [pay(1, 1)], 3), [0, 1, 0])

    def test_the_same_sum_however_it_is_split(self):
        before = closing((5, 1, 7, 7, 3, 11), 1000)
        dice = random.Random(7)
        for sum_of_all in (1, 2, 33, 34, 500, 999, 1000):
            at_once = got(before, [pay(1, sum_of_all)])
            self.assertEqual(at_once[:6], [sum_of_all * coins // 34 for coins in (5, 1, 7, 7, 3, 11)])
            self.assertEqual(at_once[6:], [0] * 14)
            for split in range(10):
                cuts = sorted(dice.sample(range(1, sum_of_all), min(split, sum_of_all - 1)))
                turns = [high - low for low, high in zip([0] + cuts, cuts + [sum_of_all])]
                self.assertEqual(got(before, [pay(1, m) for m in turns]), at_once)
        self.assertEqual(got(before, [pay(1, 1)] * 33), got(before, [pay(1, 33)]))

    def test_the_cost_and_the_units_stay(self):
        self.assertEqual(behind(CLOSING + [pay(1, 100)], [holders(1), holding(1, 1), holding(1, 2)]),
                         [[2, 1, 4000000, 2, 3000000], [4000000, 4, 57, 0], [3000000, 3, 42, 0]])

    def test_as_much_as_there_is(self):
        self.assertEqual(last(CLOSING + [pay(1, 100)]), [99])
        self.assert_refused(CLOSING, pay(1, 101), -7)
        self.assert_refused(CLOSING, pay(1, MOST_VALUE), -7)
        # Of the 10 declared one coin isn't paid yet: it stays for those it is declared for.
        self.assertEqual(last(CLOSING + [pay(1, 10), pay(1, 90)]), [90])
        self.assert_refused(CLOSING + [pay(1, 10)], pay(1, 91), -7)
        self.assert_refused(CLOSING + [pay(1, 100)], pay(1, 1), -7)
        self.assert_refused(CLOSING + [pay(1, 99), pay(1, 1)], pay(1, 1), -7)

    def test_of_a_fund_without_value(self):
        self.assert_refused(CLOSING + [result(1, -100)], pay(1, 1), -7)
        self.assertEqual(behind(CLOSING + [result(1, -100)], [result(1, 7), pay(1, 7)]), [[7], [7]])

    def test_results_between(self):
        calls = [pay(1, 70), result(1, 7), pay(1, 37), fund(1), pay(1, 1), result(1, -1), result(1, 14), pay(1, 14)]
        self.assertEqual(behind(CLOSING, calls),
                         [[70], [37], [36], [1, 7000000, 2, 1, 107, 106], [-7], [-7], [15], [14]])
        self.assertEqual(got(CLOSING, calls, 3), [69, 51, 0])

    def test_declared_beyond_the_highest_value(self):
        before = closing((1, 2), MOST_VALUE)
        calls = [pay(1, MOST_VALUE), result(1, MOST_VALUE - 1), pay(1, MOST_VALUE), pay(1, MOST_VALUE - 1), fund(1)]
        self.assertEqual(behind(before, calls),
                         [[MOST_VALUE - 1], [MOST_VALUE], [-7], [MOST_VALUE - 1],
                          [1, 3000000, 2, 1, 2 * MOST_VALUE - 1, 2 * MOST_VALUE - 2]])

    def test_products_beyond_64_bits(self):
        calls = [pay(1, MOST_VALUE - 1), holding(1, 1), holding(1, 2), holding(1, 3)]
        self.assertEqual(behind(full(MOST_VALUE), calls),
                         [[MOST_VALUE - 2],
                          [10 ** 15, 10 ** 9, 10 ** 9 - 1, 0],
                          [999 * 10 ** 15 - 1, 999, 999 * 10 ** 9 - 1, 1],
                          [1, 0, 0, 0]])

    def test_other_funds_stay(self):
        before = CLOSING + [buy(2, 1, 5), buy(2, 2, 6)] + passed(2, CLOSE, 2, 0, 0, 1) + [effect(2)]
        asked = [fund(2), holding(2, 1), holding(2, 2)]
        self.assertEqual(behind(before + [pay(1, 50)], asked), behind(before, asked))
        self.assertEqual(behind(before, [pay(2, 11), pay(1, 7), cash_of(1), cash_of(2)]), [[11], [7], [0, 0], [0, 0]])

    def test_ranges(self):
        self.assert_range(CLOSING, pay(1, 1), 1, 1, 6)
        self.assert_range(CLOSING, pay(1, 1), 2, 1, MOST_VALUE)
        self.assertEqual(last(closing((1,), MOST_VALUE) + [pay(1, MOST_VALUE)]), [MOST_VALUE])

    def test_refusals_in_their_order(self):
        self.assert_refused([], pay(1, 1), -6)
        self.assert_refused(TWO, pay(1, 1), -6)
        self.assert_refused(TWO, pay(1, MOST_VALUE), -6)
        self.assert_refused(TWO, pay(1, 0), -1)
        self.assert_refused(CLOSING, pay(2, 1), -6)
        self.assert_refused(CLOSING, pay(1, MOST_VALUE + 1), -1)
        self.assert_refused(TWO + CLOSED[:-1], pay(1, 1), -6)
        self.assert_refused(CLOSING + [last_payment(1)], pay(1, 1), -6)

    def test_trading_is_refused_still(self):
        for call in (buy(1, 1, 1), sell(1, 1, 1), transfer(1, 1, 2, 1)):
            self.assert_refused(CLOSING + [pay(1, 10)], call, -6)


class ResultInClosing(Asking, unittest.TestCase):

    def test_before_payments(self):
        self.assert_refused(CLOSING, result(1, -101), -7)
        self.assertEqual(behind(CLOSING, [result(1, -100), result(1, 40)]), [[0], [40]])

    def test_what_is_declared_and_not_paid_stays(self):
        # 10 declared and 9 paid; then 22 and 21; then 100 and 99.
        turns = [pay(1, 10), pay(1, 12), pay(1, 78)]
        for most in (1, 2, 3):
            before = CLOSING + turns[:most]
            value = last(before + [fund(1)])[0]
            self.assert_refused(before, result(1, -value), -7)
            self.assert_refused(before, result(1, -value - 1), -7)
            self.assertEqual(last(before + [result(1, 1 - value)]), [1])
            self.assert_refused(before + [result(1, 1 - value)], result(1, -1), -7)
            self.assertEqual(last(before + [result(1, 1 - value), result(1, 0)]), [1])

    def test_all_that_is_declared_is_paid(self):
        before = CLOSING + [pay(1, 7)]
        self.assertEqual(last(before + [result(1, -93)]), [0])
        self.assert_refused(before, result(1, -94), -7)

    def test_much_declared_and_not_paid(self):
        # Of 19 coins for twenty holders with the same units nobody gets one.
        before = closing((1,) * 20, 50) + [pay(1, 19)]
        self.assertEqual(last(before + [fund(1)]), [50, 20000000, 20, 1, 19, 0])
        self.assert_refused(before, result(1, -32), -7)
        self.assertEqual(behind(before, [result(1, -31), pay(1, 1), result(1, 1), pay(1, 1)]), [[19], [-7], [20], [20]])

    def test_up_to_the_highest_value(self):
        for before in (CLOSING, CLOSING + [pay(1, 10)], CLOSING + [pay(1, 10), pay(1, 90)]):
            value = last(before + [fund(1)])[0]
            self.assertEqual(last(before + [result(1, MOST_VALUE - value)]), [MOST_VALUE])
            self.assert_refused(before, result(1, MOST_VALUE - value + 1), -8)

    def test_behind_the_last_payment(self):
        self.assert_refused(CLOSING + [pay(1, 10), last_payment(1)], result(1, 1), -9)
        again = CLOSING + [pay(1, 10), last_payment(1), buy(1, 1, 5)]
        self.assertEqual(last(again + [result(1, -5)]), [0])


class Last(Asking, unittest.TestCase):

    def shares(self, coins, value):
        before = closing(coins, value)
        self.assertEqual(last(before + [last_payment(1)]), [value])
        return got(before, [last_payment(1)], len(coins))

    def test_nothing_paid_before(self):
        # 57 and 1/7, 42 and 6/7.
        self.assertEqual(self.shares((4, 3), 100), [57, 43])

    def test_behind_payments(self):
        for turns, left in (([10], 91), ([10, 11], 79), ([10, 11, 1, 78], 1), ([100], 1), ([1], 100)):
            payments = [pay(1, m) for m in turns]
            self.assertEqual(last(CLOSING + payments + [last_payment(1)]), [left])
            self.assertEqual(got(CLOSING, payments + [last_payment(1)]), [57, 43] + [0] * 18)

    def test_only_what_has_not_been_paid(self):
        self.assertEqual(got(CLOSING + [pay(1, 10)], [last_payment(1)], 3), [52, 39, 0])
        self.assertEqual(got(CLOSING + [pay(1, 100)], [last_payment(1)], 3), [0, 1, 0])

    def test_results_count_with_what_has_been_paid(self):
        # 70 paid, 30 left: with 40 more all there was is 140, with 23 less it is 77.
        paid = CLOSING + [pay(1, 70)]
        self.assertEqual(got(paid, [result(1, 40), last_payment(1)], 2), [40, 30])
        self.assertEqual(got(paid, [result(1, -23), last_payment(1)], 2), [4, 3])
        self.assertEqual(last(paid + [result(1, -30), last_payment(1)]), [0])
        self.assertEqual(got(paid, [result(1, -30), last_payment(1)], 2), [0, 0])

    def test_nothing_left_over(self):
        self.assertEqual(self.shares((4, 3), 70), [40, 30])
        self.assertEqual(self.shares((1, 1, 1), 9), [3, 3, 3])
        self.assertEqual(self.shares((5,), 123), [123])

    def test_the_greatest_remainders(self):
        # Of 7 parts, remainders: 6, 4, 4; then 3, 2, 2; 1, 3, 3; 4, 5, 5.
        self.assertEqual(self.shares((3, 2, 2), 9), [4, 3, 2])
        self.assertEqual(self.shares((3, 2, 2), 8), [4, 2, 2])
        self.assertEqual(self.shares((3, 2, 2), 12), [5, 4, 3])
        self.assertEqual(self.shares((3, 2, 2), 13), [5, 4, 4])
        self.assertEqual(self.shares((2, 2, 3), 8), [2, 2, 4])

    def test_the_same_remainder(self):
        self.assertEqual(self.shares((1, 1, 1), 100), [34, 33, 33])
        self.assertEqual(self.shares((1, 1, 1), 101), [34, 34, 33])
        self.assertEqual(self.shares((1,) * 20, 39), [2] * 19 + [1])
        self.assertEqual(self.shares((1,) * 20, 1), [1] + [0] * 19)

    def test_the_same_remainder_in_whatever_order_they_came(self):
        bought = [buy(1, h, 1) for h in (20, 3, 11, 7)]
        before = bought + [result(1, 6)] + passed(1, CLOSE, 1, 0, 0, 20) + [effect(1)]
        asked = [cash_of(h) for h in (3, 7, 11, 20)]
        self.assertEqual(behind(before, [last_payment(1)] + asked), [[10], [0, 2], [0, 2], [0, 1], [0, 1]])

    def test_paid_by_remainder_whatever_was_paid_before(self):
        # Holder 3 has the greatest remainder of all 8, though not of the 5 that were declared before.
        before = closing((2, 2, 3), 8)
        for turns in ([], [5], [1, 1, 1, 1, 1], [8], [3, 4]):
            self.assertEqual(got(before, [pay(1, m) for m in turns] + [last_payment(1)], 3), [2, 2, 4])

    def test_a_holder_who_gets_nothing(self):
        before = [buy(1, 1, 5), transfer(1, 1, 2, 1)] + CLOSED
        self.assertEqual(last(before + [last_payment(1)]), [5])
        self.assertEqual(got(before, [last_payment(1)], 3), [5, 0, 0])

    def test_without_value(self):
        before = CLOSING + [result(1, -100)]
        self.assertEqual(behind(before, [last_payment(1), fund(1), cash_of(1)]), [[0], NEW_FUND, [0, -4]])

    def test_products_beyond_64_bits(self):
        # Of 10^12, remainders: 0, 10^18 - 10^12, and 10^12.
        self.assertEqual(got(full(MOST_VALUE), [last_payment(1)], 3), [10 ** 9, 999 * 10 ** 9, 0])
        # Of 10^12 - 1, remainders: 10^18 - 10^15, 10^15 - 10^12 + 1, and 10^12 - 1.
        self.assertEqual(got(full(MOST_VALUE - 1), [last_payment(1)], 3), [10 ** 9, 999 * 10 ** 9 - 1, 0])
        turns = [pay(1, MOST_VALUE - 1), last_payment(1)]
        self.assertEqual(got(full(MOST_VALUE), turns, 3), [10 ** 9, 999 * 10 ** 9, 0])
        self.assertEqual(last(full(MOST_VALUE) + [fund(1)]), [MOST_VALUE, MOST_UNITS, 3, 1, 0, 0])

    def test_then_the_fund_is_as_new(self):
        for turns in ([], [10], [10, 11, 1, 78]):
            after = CLOSING + [pay(1, m) for m in turns] + [last_payment(1)]
            asked = [fund(1), holders(1), holding(1, 1), holding(1, 2)]
            self.assertEqual(behind(after, asked), [NEW_FUND, [0], [0, 0, 0, 0], [0, 0, 0, 0]])
            self.assertEqual(behind(after, [sell(1, 1, 1), result(1, 0), offer(1, 2, 1)]), [[-4], [-9], [-9]])

    def test_bought_into_anew(self):
        after = CLOSING + [pay(1, 10), last_payment(1)]
        self.assertEqual(behind(after, [buy(1, 2, 9), fund(1), holding(1, 2), holding(1, 1)]),
                         [[9000000], [9, 9000000, 1, 0, 0, 0], [9000000, 9, 0, 9], [0, 0, 0, 0]])

    def test_divided_and_joined_into_anew(self):
        for kind, answer in ((JOIN, [1, 0, 5000000]), (DIVIDE, [2, 2])):
            after = CLOSING + [pay(1, 10), last_payment(1), buy(2, 1, 5)]
            taken = passed(2, kind, 2, 1, 500000, 1) + [effect(2)]
            self.assertEqual(behind(after + taken[:-1], [effect(2), fund(1)])[0], answer)
            self.assertEqual(last(after + taken + [fund(1)])[2:], [1, 0, 0, 0])

    def test_closed_anew(self):
        after = CLOSING + [pay(1, 10), last_payment(1), buy(1, 1, 5), buy(1, 3, 5)]
        again = passed(2, CLOSE, 1, 0, 0, 3) + [effect(2)]
        self.assertEqual(behind(after, again + [fund(1), holding(1, 3)])[3:],
                         [[3], [10, 10000000, 2, 1, 0, 0], [5000000, 5, 0, 5]])
        self.assertEqual(behind(after + again, [pay(1, 11), pay(1, 10), last_payment(1)]), [[-7], [10], [0]])
        self.assertEqual(got(after + again, [pay(1, 3), last_payment(1)], 4), [5, 0, 5, 0])

    def test_a_scheme_on_a_fund_paid_out(self):
        before = TWO + passed(1, CLOSE, 1, 0, 0, 1) + passed(2, CLOSE, 1, 0, 0, 1) + [effect(1)]
        self.assert_refused(before + [last_payment(1)], effect(2), -6)
        self.assert_refused(before + [last_payment(1)], effect(1), -5)
        self.assertEqual(behind(before, [last_payment(1), buy(1, 3, 1), effect(2), pay(1, 1)])[1:],
                         [[1000000], [3], [1]])

    def test_the_scheme_stays_done(self):
        self.assertEqual(behind(CLOSING, [last_payment(1), scheme(1), tally(1)]),
                         [[100], [3, 1, 0, 0, 0, 0, 3, 1, 0], [2, 0, 0, 0]])

    def test_other_funds_stay(self):
        before = CLOSING + [buy(2, 1, 5), buy(2, 2, 6)] + passed(2, CLOSE, 2, 0, 0, 1) + [effect(2), pay(2, 3)]
        asked = [fund(2), holders(2), holding(2, 1), holding(2, 2)]
        self.assertEqual(behind(before + [last_payment(1)], asked), behind(before, asked))
        self.assertEqual(last(before + [fund(2)]), [9, 11000000, 2, 1, 3, 2])

    def test_ranges(self):
        self.assert_range(CLOSING, last_payment(1), 1, 1, 6)
        for f in (1, 6):
            before = [buy(f, 1, 5)] + passed(1, CLOSE, f, 0, 0, 1) + [effect(1)]
            self.assertEqual(behind(before, [pay(f, 2), last_payment(f)]), [[2], [3]])

    def test_not_closing(self):
        self.assert_refused([], last_payment(1), -6)
        self.assert_refused(TWO, last_payment(1), -6)
        self.assert_refused(CLOSING, last_payment(2), -6)
        self.assert_refused(TWO + [propose(CLOSE, 1, 0), vote(1, 1, 1)], last_payment(1), -6)
        self.assert_refused(CLOSING + [last_payment(1)], last_payment(1), -6)

    def test_coins_are_kept(self):
        calls = CLOSING + [pay(1, 33), result(1, -12), pay(1, 5), last_payment(1)]
        self.assertEqual(sum(cash(book_after(calls)).values()), 93 - 12)
        self.assertEqual(run(calls)[-4:], [[32], [56], [5], [51]])


if __name__ == "__main__":
    unittest.main()
