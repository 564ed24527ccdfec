"""The calls that change a fund's holdings or its value: buy, sell, transfer, result."""

from fundsjoined.book import add_to_holding, all_paid, all_units, is_worthless, take_from_holding, units_of
from fundsjoined.limits import MILLION, MOST_BOUGHT_AT_ONCE, MOST_UNITS, MOST_VALUE
from fundsjoined.limits import NO_ROOM, NOT_ALLOWED, NOT_THERE, NOTHING_TO_RECKON_BY, OUT_OF_RANGE, WRONG_AMOUNT
from fundsjoined.limits import is_amount_of_units, is_fund, is_holder, within


def units_for_money(fund, money):
    """How many units the money brings; the fund has none yet, or a value above 0."""
    whole = all_units(fund)
    if whole == 0:
        return money * MILLION
    return money * whole // fund.value


def buy(book, f, h, m):
    if not is_fund(f) or not is_holder(h) or not within(m, 1, MOST_BOUGHT_AT_ONCE):
        return [OUT_OF_RANGE]
    fund = book.funds[f]
    if fund.closing:
        return [NOT_ALLOWED]
    if is_worthless(fund):
        return [NOTHING_TO_RECKON_BY]
    units = units_for_money(fund, m)
    if units == 0:
        return [WRONG_AMOUNT]
    if fund.value + m > MOST_VALUE or all_units(fund) + units > MOST_UNITS:
        return [NO_ROOM]
    add_to_holding(fund, h, units, m)
    fund.value += m
    book.cash[h] -= m
    return [units]


def refusal_to_part(fund, h, u):
    """Why h can't part with u units of the fund, or 0."""
    if fund.closing:
        return NOT_ALLOWED
    had = units_of(fund, h)
    if had == 0:
        return NOT_THERE
    if had < u:
        return WRONG_AMOUNT
    return 0


def sell(book, f, h, u):
    if not is_fund(f) or not is_holder(h) or not is_amount_of_units(u):
        return [OUT_OF_RANGE]
    fund = book.funds[f]
    refusal = refusal_to_part(fund, h, u)
    if refusal != 0:
        return [refusal]
    money = fund.value * u // all_units(fund)
    cost = take_from_holding(fund, h, u)
    fund.value -= money
    book.cash[h] += money
    return [money, cost]


def transfer(book, f, h, g, u):
    if not is_fund(f) or not is_holder(h) or not is_holder(g) or not is_amount_of_units(u):
        return [OUT_OF_RANGE]
    fund = book.funds[f]
    refusal = refusal_to_part(fund, h, u)
    if refusal != 0:
        return [refusal]
    if h == g:
        return [NOT_ALLOWED]
    cost = take_from_holding(fund, h, u)
    add_to_holding(fund, g, u, cost)
    return [cost]


def result(book, f, d):
    if not is_fund(f) or not within(d, -MOST_VALUE, MOST_VALUE):
        return [OUT_OF_RANGE]
    fund = book.funds[f]
    if all_units(fund) == 0:
        return [NOTHING_TO_RECKON_BY]
    value = fund.value + d
    if value < 0:
        return [WRONG_AMOUNT]
    if fund.closing and value < fund.declared - all_paid(fund):
        return [WRONG_AMOUNT]
    if value > MOST_VALUE:
        return [NO_ROOM]
    fund.value = value
    return [value]
