import unittest

from tests.calls import CLOSE, DIVIDE, HIGHEST, JOIN, LOWEST, MILLION, MOST_UNITS, Asking
from tests.calls import begin, book_after, buy, count, effect, last, propose, proxy, result, run, sell, transfer, vote

# Units of fund 1: 2000000, 1000000, 1000000 and 4000000 in all.
THREE = [buy(1, 1, 2), buy(1, 2, 1), buy(1, 3, 1)]
# Scheme 1 is failed, 2 passed, 3 done, 4 not counted yet.
EACH_STATE = THREE + [propose(CLOSE, 1, 0), count(1),
                      propose(CLOSE, 1, 0), vote(2, 1, 1), count(2),
                      propose(DIVIDE, 1, 2), vote(3, 1, 1), count(3), effect(3),
                      propose(JOIN, 1, 3)]


def asked(quorum, need):
    return THREE + [propose(CLOSE, 1, 0, 0, quorum, need)]


class Propose(Asking, unittest.TestCase):

    def test_numbers_one_behind_another(self):
        self.assertEqual(run([propose(JOIN, 1, 2), propose(DIVIDE, 1, 2, MILLION), propose(CLOSE, 6, 0), count(3)]),
                         [[1], [2], [3], [2, 0, 0, 0]])

    def test_what_is_kept(self):
        scheme = book_after([propose(DIVIDE, 3, 5, 1, 2, 4)]).schemes[1]
        self.assertEqual((scheme.kind, scheme.fund_number, scheme.other_number), (2, 3, 5))
        self.assertEqual((scheme.part, scheme.quorum, scheme.need), (1, 2, 4))
        self.assertEqual((scheme.state, scheme.votes, scheme.proxies), (0, {}, {}))

    def test_ranges(self):
        self.assert_range([], propose(JOIN, 1, 2), 1, 1, 3)
        self.assert_range([], propose(JOIN, 1, 2), 2, 1, 6)
        self.assert_range([], propose(JOIN, 1, 2), 3, 0, 6)
        for place in (4, 5, 6):
            self.assert_range([], propose(JOIN, 1, 2), place, 0, MILLION)
            self.assertEqual(last([propose(JOIN, 1, 2)[:place] + [MILLION] + [0] * (6 - place)]), [1])

    def test_the_other_fund(self):
        for kind in (JOIN, DIVIDE):
            self.assert_refused([], propose(kind, 1, 0), -6)
            self.assert_refused([], propose(kind, 6, 6), -6)
            self.assertEqual(last([propose(kind, 6, 1)]), [1])
        self.assert_refused([], propose(CLOSE, 1, 1), -6)
        self.assert_refused([], propose(CLOSE, 1, 2), -6)
        self.assertEqual(last([propose(CLOSE, 1, 0)]), [1])

    def test_twenty_schemes(self):
        nineteen = [propose(JOIN, 1, 2)] * 19
        self.assertEqual(last(nineteen + [propose(CLOSE, 1, 0)]), [20])
        twenty = nineteen + [propose(CLOSE, 1, 0)]
        self.assert_refused(twenty, propose(JOIN, 1, 2), -8)
        self.assert_refused(twenty, propose(JOIN, 1, 1), -6)
        self.assert_refused(twenty, propose(4, 1, 1), -1)
        self.assertEqual(last(twenty + [count(20)]), [2, 0, 0, 0])
        self.assertEqual(last(twenty + [count(21)]), [-4])

    def test_refused_ones_take_no_number(self):
        self.assertEqual(run([propose(JOIN, 1, 1), propose(0, 1, 2), propose(JOIN, 1, 2)]), [[-6], [-1], [1]])

    def test_funds_need_not_be_such_yet(self):
        closing = [buy(1, 1, 1), propose(CLOSE, 1, 0), vote(1, 1, 1), count(1), effect(1)]
        self.assertEqual(run(closing + [propose(CLOSE, 1, 0), propose(JOIN, 1, 2), propose(JOIN, 2, 1)])[5:],
                         [[2], [3], [4]])


class OnAScheme(Asking):
    """What the calls that name an open scheme have in common; call(n) is an otherwise good one."""

    def test_the_scheme_number(self):
        before = THREE + [propose(JOIN, 1, 2)]
        for n in (0, -1, MILLION + 1, LOWEST, HIGHEST):
            self.assert_refused(before, self.call(n), -1)
        for n in (2, 20, 21, MILLION):
            self.assert_refused(before, self.call(n), -4)
        self.assert_refused(THREE, self.call(1), -4)
        self.assert_refused(THREE + [propose(JOIN, 1, 2), begin()], self.call(1), -4)

    def test_a_scheme_that_is_not_open(self):
        for n in (1, 2, 3):
            self.assert_refused(EACH_STATE, self.call(n), -5)
        self.assertGreaterEqual(last(EACH_STATE + [self.call(4)])[0], 0)


class Vote(OnAScheme, unittest.TestCase):

    def call(self, n):
        return vote(n, 1, 1)

    def test_answers_the_units_of_the_schemes_fund(self):
        calls = THREE + [buy(2, 1, 9), propose(JOIN, 1, 2), vote(1, 1, 1), vote(1, 2, 0), vote(1, 4, 1)]
        self.assertEqual(run(calls)[5:], [[2000000], [1000000], [0]])

    def test_instead_of_one_before(self):
        calls = asked(0, 0) + [vote(1, 1, 1), vote(1, 1, 0), vote(1, 2, 0), vote(1, 2, 1), count(1)]
        self.assertEqual(last(calls), [1, 3000000, 1000000, 4000000])

    def test_of_one_scheme_alone(self):
        calls = asked(0, 0) + [propose(CLOSE, 1, 0), vote(1, 1, 1), count(2), count(1)]
        self.assertEqual(run(calls)[-2:], [[2, 0, 0, 4000000], [1, 2000000, 2000000, 4000000]])

    def test_ranges(self):
        self.assert_range(asked(0, 0), vote(1, 1, 1), 2, 1, 20)
        self.assert_range(asked(0, 0), vote(1, 1, 1), 3, 0, 1)

    def test_ranges_are_told_first(self):
        self.assert_refused(EACH_STATE, vote(99, 21, 1), -1)
        self.assert_refused(EACH_STATE, vote(99, 1, 2), -1)
        self.assert_refused(EACH_STATE, vote(1, 0, 1), -1)
        self.assert_refused(EACH_STATE, vote(0, 0, -1), -1)


class Proxy(OnAScheme, unittest.TestCase):

    def call(self, n):
        return proxy(n, 1, 2)

    def counted(self, *calls):
        return last(asked(0, 0) + list(calls) + [count(1)])

    def test_answers_zero(self):
        self.assertEqual(last(asked(0, 0) + [proxy(1, 1, 2)]), [0])

    def test_whoever_is_named_speaks(self):
        self.assertEqual(self.counted(proxy(1, 1, 2), vote(1, 2, 1)), [1, 3000000, 3000000, 4000000])
        self.assertEqual(self.counted(proxy(1, 1, 2), vote(1, 2, 0), vote(1, 3, 1)), [1, 4000000, 1000000, 4000000])

    def test_before_and_behind_the_vote(self):
        self.assertEqual(self.counted(vote(1, 2, 1), proxy(1, 1, 2)), [1, 3000000, 3000000, 4000000])

    def test_one_who_named_a_silent_one(self):
        self.assertEqual(self.counted(proxy(1, 1, 2), vote(1, 3, 1)), [1, 1000000, 1000000, 4000000])
        self.assertEqual(self.counted(proxy(1, 1, 2), proxy(1, 2, 20), vote(1, 3, 1)), [1, 1000000, 1000000, 4000000])

    def test_a_vote_beside_a_proxy(self):
        self.assertEqual(self.counted(proxy(1, 1, 2), vote(1, 1, 1), vote(1, 2, 0)), [1, 3000000, 2000000, 4000000])
        self.assertEqual(self.counted(vote(1, 1, 1), proxy(1, 1, 2), vote(1, 2, 0)), [1, 3000000, 2000000, 4000000])

    def test_a_chain_ends_at_the_first_who_voted(self):
        self.assertEqual(self.counted(proxy(1, 1, 2), proxy(1, 2, 3), vote(1, 2, 1), vote(1, 3, 0)),
                         [1, 4000000, 3000000, 4000000])

    def test_named_anew(self):
        self.assertEqual(self.counted(proxy(1, 1, 2), proxy(1, 1, 3), vote(1, 2, 1), vote(1, 3, 0)),
                         [1, 4000000, 1000000, 4000000])
        self.assertEqual(self.counted(proxy(1, 1, 2), proxy(1, 1, 4), vote(1, 2, 1)), [1, 1000000, 1000000, 4000000])

    def test_one_without_units_speaks_for_others(self):
        self.assertEqual(self.counted(proxy(1, 1, 20), proxy(1, 2, 20), vote(1, 20, 1)),
                         [1, 3000000, 3000000, 4000000])
        self.assertEqual(self.counted(proxy(1, 1, 20), proxy(1, 20, 3), vote(1, 3, 1)),
                         [1, 3000000, 3000000, 4000000])

    def test_one_who_names_without_units_brings_none(self):
        self.assertEqual(self.counted(proxy(1, 20, 1), vote(1, 1, 1)), [1, 2000000, 2000000, 4000000])

    def test_chains_that_come_round(self):
        self.assertEqual(self.counted(proxy(1, 1, 2), proxy(1, 2, 1), vote(1, 3, 1)), [1, 1000000, 1000000, 4000000])
        self.assertEqual(self.counted(proxy(1, 1, 2), proxy(1, 2, 4), proxy(1, 4, 2), vote(1, 3, 1)),
                         [1, 1000000, 1000000, 4000000])
        self.assertEqual(self.counted(proxy(1, 1, 2), proxy(1, 2, 3), proxy(1, 3, 1)), [2, 0, 0, 4000000])

    def test_a_round_with_one_who_voted(self):
        self.assertEqual(self.counted(proxy(1, 1, 2), proxy(1, 2, 3), proxy(1, 3, 1), vote(1, 3, 1)),
                         [1, 4000000, 4000000, 4000000])

    def test_the_longest_chain(self):
        every = [buy(1, h, 1) for h in range(1, 21)]
        chain = [proxy(1, h, h + 1) for h in range(1, 20)]
        before = every + [propose(CLOSE, 1, 0)] + chain
        self.assertEqual(last(before + [vote(1, 20, 1), count(1)]), [1, 20000000, 20000000, 20000000])
        self.assertEqual(last(before + [count(1)]), [2, 0, 0, 20000000])
        self.assertEqual(last(before + [vote(1, 10, 1), count(1)]), [1, 10000000, 10000000, 20000000])
        self.assertEqual(last(before + [proxy(1, 20, 1), count(1)]), [2, 0, 0, 20000000])
        self.assertEqual(last(before + [proxy(1, 20, 1), vote(1, 20, 1), count(1)]),
                         [1, 20000000, 20000000, 20000000])
        down = [proxy(1, h, h - 1) for h in range(2, 21)]
        self.assertEqual(last(every + [propose(CLOSE, 1, 0)] + down + [vote(1, 1, 1), count(1)]),
                         [1, 20000000, 20000000, 20000000])

    def test_of_one_scheme_alone(self):
        calls = asked(0, 0) + [propose(CLOSE, 1, 0), proxy(1, 1, 2), vote(2, 2, 1), count(2)]
        self.assertEqual(last(calls), [1, 1000000, 1000000, 4000000])

    def test_ranges(self):
        self.assert_range(asked(0, 0), proxy(1, 7, 8), 2, 1, 20)
        self.assert_range(asked(0, 0), proxy(1, 7, 8), 3, 1, 20)

    def test_refusals_in_their_order(self):
        self.assert_refused(asked(0, 0), proxy(1, 2, 2), -6)
        self.assert_refused(asked(0, 0), proxy(1, 21, 21), -1)
        self.assert_refused(asked(0, 0), proxy(2, 2, 2), -4)
        self.assert_refused(asked(0, 0), proxy(2, 2, 21), -1)
        self.assert_refused(asked(0, 0), proxy(0, 2, 2), -1)
        self.assert_refused(EACH_STATE, proxy(1, 2, 2), -5)


class Count(OnAScheme, unittest.TestCase):

    def call(self, n):
        return count(n)

    def test_nobody_spoke(self):
        self.assertEqual(last(asked(0, 0) + [count(1)]), [2, 0, 0, 4000000])

    def test_all_against(self):
        self.assertEqual(last(asked(0, 0) + [vote(1, 1, 0), vote(1, 2, 0), vote(1, 3, 0), count(1)]),
                         [2, 4000000, 0, 4000000])

    def test_one_unit_for_it(self):
        before = asked(0, 0) + [transfer(1, 1, 4, 1), vote(1, 1, 0), vote(1, 4, 1), count(1)]
        self.assertEqual(last(before), [1, 2000000, 1, 4000000])

    def test_for_it_without_units(self):
        self.assertEqual(last(asked(0, 0) + [vote(1, 4, 1), count(1)]), [2, 0, 0, 4000000])
        self.assertEqual(last([propose(CLOSE, 1, 0), vote(1, 1, 1), count(1)]), [2, 0, 0, 0])

    def test_quorum_at_the_bound(self):
        self.assertEqual(last(asked(500000, 0) + [vote(1, 1, 1), count(1)]), [1, 2000000, 2000000, 4000000])
        self.assertEqual(last(asked(500001, 0) + [vote(1, 1, 1), count(1)]), [2, 2000000, 2000000, 4000000])
        self.assertEqual(last(asked(500000, 0) + [transfer(1, 1, 4, 1), vote(1, 1, 1), count(1)]),
                         [2, 1999999, 1999999, 4000000])

    def test_votes_against_count_for_the_quorum(self):
        self.assertEqual(last(asked(750000, 0) + [vote(1, 1, 0), vote(1, 2, 1), count(1)]),
                         [1, 3000000, 1000000, 4000000])

    def test_the_whole_quorum(self):
        all_but_one = [vote(1, 1, 1), vote(1, 2, 1)]
        self.assertEqual(last(asked(MILLION, 0) + all_but_one + [vote(1, 3, 0), count(1)])[0], 1)
        self.assertEqual(last(asked(MILLION, 0) + all_but_one + [count(1)])[0], 2)

    def test_need_at_the_bound(self):
        votes = [vote(1, 1, 1), vote(1, 2, 0), vote(1, 3, 0), count(1)]
        self.assertEqual(last(asked(0, 500000) + votes), [1, 4000000, 2000000, 4000000])
        self.assertEqual(last(asked(0, 500001) + votes), [2, 4000000, 2000000, 4000000])
        self.assertEqual(last(asked(0, 500000) + [transfer(1, 1, 2, 1)] + votes), [2, 4000000, 1999999, 4000000])

    def test_need_goes_by_the_units_cast(self):
        self.assertEqual(last(asked(0, MILLION) + [vote(1, 3, 1), count(1)]), [1, 1000000, 1000000, 4000000])
        self.assertEqual(last(asked(0, MILLION) + [vote(1, 3, 1), vote(1, 4, 0), count(1)])[0], 1)
        self.assertEqual(last(asked(0, MILLION) + [transfer(1, 1, 4, 1), vote(1, 3, 1), vote(1, 4, 0), count(1)]),
                         [2, 1000001, 1000000, 4000000])

    def test_bounds_between_whole_units(self):
        # 1000000 of 3000000 units are above 333333 millionths and below 333334.
        three = [buy(1, 1, 1), buy(1, 2, 1), buy(1, 3, 1)]
        for quorum, need, state in ((333333, 0, 1), (333334, 0, 2)):
            self.assertEqual(last(three + [propose(CLOSE, 1, 0, 0, quorum, need), vote(1, 1, 1), count(1)])[0], state)
        votes = [vote(1, 1, 1), vote(1, 2, 0), vote(1, 3, 0), count(1)]
        for need, state in ((333333, 1), (333334, 2)):
            self.assertEqual(last(three + [propose(CLOSE, 1, 0, 0, 0, need)] + votes)[0], state)

    def test_units_as_they_are_now(self):
        calls = asked(0, 0) + [vote(1, 1, 1), vote(1, 2, 0), transfer(1, 1, 3, 500000), buy(1, 2, 2), count(1)]
        self.assertEqual(last(calls), [1, 4500000, 1500000, 6000000])
        self.assertEqual(last(asked(0, 0) + [vote(1, 1, 1), sell(1, 1, 2000000), count(1)]), [2, 0, 0, 2000000])

    def test_units_of_the_schemes_own_fund(self):
        calls = [buy(1, 1, 1), buy(2, 2, 7), propose(JOIN, 1, 2), vote(1, 2, 1), count(1)]
        self.assertEqual(last(calls), [2, 0, 0, 1000000])

    def test_beyond_64_bits(self):
        full = [buy(1, 1, 10 ** 9), result(1, 1 - 10 ** 9), buy(1, 2, 999)]
        just = full + [transfer(1, 2, 3, 499 * 10 ** 15), propose(CLOSE, 1, 0, 0, 500000, MILLION)]
        self.assertEqual(last(just + [vote(1, 2, 1), count(1)]), [1, MOST_UNITS // 2, MOST_UNITS // 2, MOST_UNITS])
        below = just + [transfer(1, 2, 1, 1), vote(1, 2, 1), count(1)]
        self.assertEqual(last(below), [2, MOST_UNITS // 2 - 1, MOST_UNITS // 2 - 1, MOST_UNITS])
        needing = full + [transfer(1, 2, 3, 499 * 10 ** 15), propose(CLOSE, 1, 0, 0, 0, 500000)]
        votes = [vote(1, 1, 0), vote(1, 2, 1), vote(1, 3, 0), count(1)]
        self.assertEqual(last(needing + votes)[0], 1)
        self.assertEqual(last(needing + [transfer(1, 2, 1, 1)] + votes)[0], 2)

    def test_counted_once(self):
        before = asked(0, 0) + [vote(1, 1, 1), count(1)]
        self.assert_refused(before, count(1), -5)
        self.assert_refused(asked(0, 0) + [count(1)], count(1), -5)


if __name__ == "__main__":
    unittest.main()
