"""The call effect: a fund is joined into another, divided, or set to closing."""

from fundsjoined.book import CLOSE, DIVIDE, JOIN, STATE_DONE, STATE_PASSED
from fundsjoined.book import add_to_holding, all_units, is_worthless
from fundsjoined.limits import MILLION, MOST_UNITS, MOST_VALUE
from fundsjoined.limits import NO_ROOM, NOT_ALLOWED, NOTHING_TO_RECKON_BY
from fundsjoined.voting import refusal_of_state


def brought_by(units, fund, other):
    """The units of the other fund, and the cash, that units of a fund bring when it is joined into the other."""
    fund_units = all_units(fund)
    other_units = all_units(other)
    if other_units == 0:
        return (units, 0)
    worth = units * fund.value * other_units
    new_units = worth // (fund_units * other.value)
    rest = worth - new_units * other.value * fund_units
    return (new_units, rest // (fund_units * other_units))


def brought_to_all(fund, other):
    """For each holder of the fund, by number: the holder, the units and the cash that a join brings."""
    brought = []
    for holder in sorted(fund.holdings):
        share = brought_by(fund.holdings[holder].units, fund, other)
        brought.append((holder, share[0], share[1]))
    return brought


def hand_out(book, fund, other, brought):
    for share in brought:
        holder = share[0]
        cash = share[2]
        cost = max(0, fund.holdings[holder].cost - cash)
        add_to_holding(other, holder, share[1], cost)
        book.cash[holder] += cash


def join_into(book, fund, other):
    if is_worthless(other):
        return [NOTHING_TO_RECKON_BY]
    # All shares are reckoned before one is handed out: they go by the values and units from before.
    brought = brought_to_all(fund, other)
    new_units = sum([share[1] for share in brought])
    cash = sum([share[2] for share in brought])
    value = other.value + fund.value - cash
    if value > MOST_VALUE or all_units(other) + new_units > MOST_UNITS:
        return [NO_ROOM]
    hand_out(book, fund, other, brought)
    other.value = value
    fund.value = 0
    fund.holdings = {}
    return [JOIN, cash, new_units]


def divide_into(fund, other, part):
    if all_units(other) > 0:
        return [NOT_ALLOWED]
    other.value = fund.value * part // MILLION
    fund.value -= other.value
    for holder in sorted(fund.holdings):
        holding = fund.holdings[holder]
        cost = holding.cost * part // MILLION
        holding.cost -= cost
        add_to_holding(other, holder, holding.units, cost)
    return [DIVIDE, other.value]


def set_closing(fund):
    fund.closing = True
    fund.declared = 0
    for holder in sorted(fund.holdings):
        holding = fund.holdings[holder]
        holding.paid = 0
    return [CLOSE]


def carry_out(book, scheme):
    fund = book.funds[scheme.fund_number]
    if fund.closing or all_units(fund) == 0:
        return [NOT_ALLOWED]
    if scheme.kind == CLOSE:
        return set_closing(fund)
    other = book.funds[scheme.other_number]
    if other.closing:
        return [NOT_ALLOWED]
    if scheme.kind == DIVIDE:
        return divide_into(fund, other, scheme.part)
    return join_into(book, fund, other)


def take_effect(book, n):
    refusal = refusal_of_state(book, n, STATE_PASSED)
    if refusal != 0:
        return [refusal]
    scheme = book.schemes[n]
    answer = carry_out(book, scheme)
    if answer[0] > 0:
        scheme.state = STATE_DONE
    return answer
