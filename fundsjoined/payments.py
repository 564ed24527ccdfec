"""The calls that pay out a fund that is closing: pay and last."""

from fundsjoined.book import all_paid, all_units
from fundsjoined.limits import MOST_VALUE, NOT_ALLOWED, OUT_OF_RANGE, WRONG_AMOUNT
from fundsjoined.limits import is_fund, within


def shares_rounded_down(fund, coins):
    """Each holder's part of the coins by units, rounded down."""
    whole = all_units(fund)
    shares = {}
    for holder in sorted(fund.holdings):
        shares[holder] = coins * fund.holdings[holder].units // whole
    return shares


def holders_by_remainder(fund, coins):
    """The holders, those with the greatest remainders of their part first, of the same the lesser number."""
    whole = all_units(fund)
    ranks = []
    for holder in fund.holdings:
        remainder = coins * fund.holdings[holder].units % whole
        ranks.append((-remainder, holder))
    return [rank[1] for rank in sorted(ranks)]


def shares_of_all(fund, coins):
    """Each holder's part of the coins by units, so that no coin is left."""
    shares = shares_rounded_down(fund, coins)
    left = coins - sum(shares.values())
    # What rounding leaves is less than a coin for each holder, so nobody is due two of these.
    for holder in holders_by_remainder(fund, coins)[:left]:
        shares[holder] += 1
    return shares


def pay_up_to(book, fund, shares):
    """Pays each holder what their share is above what they have been paid; answers how much that is in all."""
    in_all = 0
    for holder in sorted(shares):
        holding = fund.holdings[holder]
        coins = shares[holder] - holding.paid
        holding.paid += coins
        book.cash[holder] += coins
        in_all += coins
    fund.value -= in_all
    return in_all


def pay(book, f, m):
    if not is_fund(f) or not within(m, 1, MOST_VALUE):
        return [OUT_OF_RANGE]
    fund = book.funds[f]
    if not fund.closing:
        return [NOT_ALLOWED]
    if fund.declared + m > fund.value + all_paid(fund):
        return [WRONG_AMOUNT]
    fund.declared += m
    return [pay_up_to(book, fund, shares_rounded_down(fund, fund.declared))]


def pay_last(book, f):
    if not is_fund(f):
        return [OUT_OF_RANGE]
    fund = book.funds[f]
    if not fund.closing:
        return [NOT_ALLOWED]
    in_all = pay_up_to(book, fund, shares_of_all(fund, fund.value + all_paid(fund)))
    fund.holdings = {}
    fund.closing = False
    fund.declared = 0
    return [in_all]
