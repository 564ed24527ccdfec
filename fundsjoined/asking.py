"""The calls that only ask: fund, holding, cash, holders, scheme, tally, speaker, offer."""

from fundsjoined.book import all_paid, all_units, is_worthless, units_of
from fundsjoined.effects import brought_by
from fundsjoined.limits import NOT_ALLOWED, NOTHING_TO_RECKON_BY, OUT_OF_RANGE
from fundsjoined.limits import is_fund, is_holder
from fundsjoined.voting import refusal_of_number, speaker_for, tally_of


def tell_fund(book, f):
    if not is_fund(f):
        return [OUT_OF_RANGE]
    fund = book.funds[f]
    closing = 1 if fund.closing else 0
    return [fund.value, all_units(fund), len(fund.holdings), closing, fund.declared, all_paid(fund)]


def tell_holding(book, f, h):
    if not is_fund(f) or not is_holder(h):
        return [OUT_OF_RANGE]
    fund = book.funds[f]
    if h not in fund.holdings:
        return [0, 0, 0, 0]
    holding = fund.holdings[h]
    worth = fund.value * holding.units // all_units(fund)
    return [holding.units, holding.cost, holding.paid, worth]


def tell_cash(book, h):
    if not is_holder(h):
        return [OUT_OF_RANGE]
    # Cash may be below 0, and an answer that begins so would be a refusal.
    return [0, book.cash[h]]


def tell_holders(book, f):
    if not is_fund(f):
        return [OUT_OF_RANGE]
    fund = book.funds[f]
    answer = [len(fund.holdings)]
    for holder in sorted(fund.holdings):
        answer.extend([holder, units_of(fund, holder)])
    return answer


def tell_scheme(book, n):
    refusal = refusal_of_number(book, n)
    if refusal != 0:
        return [refusal]
    scheme = book.schemes[n]
    proposed = [scheme.kind, scheme.fund_number, scheme.other_number, scheme.part, scheme.quorum, scheme.need]
    return proposed + [scheme.state, len(scheme.votes), len(scheme.proxies)]


def tell_tally(book, n):
    refusal = refusal_of_number(book, n)
    if refusal != 0:
        return [refusal]
    scheme = book.schemes[n]
    return tally_of(scheme, book.funds[scheme.fund_number])


def tell_speaker(book, n, h):
    if not is_holder(h):
        return [OUT_OF_RANGE]
    refusal = refusal_of_number(book, n)
    if refusal != 0:
        return [refusal]
    return [speaker_for(book.schemes[n], h)]


def tell_offer(book, a, b, h):
    if not is_fund(a) or not is_fund(b) or not is_holder(h):
        return [OUT_OF_RANGE]
    if a == b:
        return [NOT_ALLOWED]
    fund = book.funds[a]
    other = book.funds[b]
    if all_units(fund) == 0 or is_worthless(other):
        return [NOTHING_TO_RECKON_BY]
    return list(brought_by(units_of(fund, h), fund, other))
