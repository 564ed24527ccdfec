"""The calls on a scheme until it has passed or failed: propose, vote, proxy, count."""

from fundsjoined.book import CLOSE, STATE_FAILED, STATE_OPEN, STATE_PASSED, Scheme, all_units, units_of
from fundsjoined.limits import HIGHEST_SCHEME_NUMBER, HOLDERS, MILLION, MOST_SCHEMES
from fundsjoined.limits import NO_ROOM, NOT_ALLOWED, NOT_THERE, OUT_OF_RANGE, WRONG_STATE
from fundsjoined.limits import FUNDS, is_fund, is_holder, is_millionths, within


def fits_kind(kind, a, b):
    if kind == CLOSE:
        return b == 0
    return b != 0 and b != a


def propose(book, kind, a, b, part, quorum, need):
    if not within(kind, 1, CLOSE) or not is_fund(a) or not within(b, 0, FUNDS):
        return [OUT_OF_RANGE]
    if not is_millionths(part) or not is_millionths(quorum) or not is_millionths(need):
        return [OUT_OF_RANGE]
    if not fits_kind(kind, a, b):
        return [NOT_ALLOWED]
    if len(book.schemes) == MOST_SCHEMES:
        return [NO_ROOM]
    number = len(book.schemes) + 1
    book.schemes[number] = Scheme(kind, a, b, part, quorum, need)
    return [number]


def refusal_of_number(book, n):
    """Why n isn't the number of a scheme, or 0."""
    if not within(n, 1, HIGHEST_SCHEME_NUMBER):
        return OUT_OF_RANGE
    if n not in book.schemes:
        return NOT_THERE
    return 0


def refusal_of_state(book, n, state):
    """Why n isn't the number of a scheme in that state, or 0."""
    refusal = refusal_of_number(book, n)
    if refusal == 0 and book.schemes[n].state != state:
        return WRONG_STATE
    return refusal


def vote(book, n, h, pro):
    if not is_holder(h) or not within(pro, 0, 1):
        return [OUT_OF_RANGE]
    refusal = refusal_of_state(book, n, STATE_OPEN)
    if refusal != 0:
        return [refusal]
    scheme = book.schemes[n]
    scheme.votes[h] = pro
    return [units_of(book.funds[scheme.fund_number], h)]


def proxy(book, n, h, g):
    if not is_holder(h) or not is_holder(g):
        return [OUT_OF_RANGE]
    refusal = refusal_of_state(book, n, STATE_OPEN)
    if refusal != 0:
        return [refusal]
    if h == g:
        return [NOT_ALLOWED]
    scheme = book.schemes[n]
    scheme.proxies[h] = g
    return [0]


def speaker_for(scheme, h):
    """Who speaks for h in the scheme, or 0."""
    speaker = h
    # A chain of more steps than there are holders has come round.
    for step in range(HOLDERS):
        if speaker in scheme.votes:
            return speaker
        if speaker not in scheme.proxies:
            return 0
        speaker = scheme.proxies[speaker]
    return 0


def tally_of(scheme, fund):
    """The state that the scheme gets by the units as they are now; the units cast, those for it, and all."""
    cast = 0
    pro = 0
    for holder in sorted(fund.holdings):
        speaker = speaker_for(scheme, holder)
        if speaker != 0:
            units = units_of(fund, holder)
            cast += units
            pro += units * scheme.votes[speaker]
    whole = all_units(fund)
    enough_cast = cast * MILLION >= scheme.quorum * whole
    enough_pro = pro * MILLION >= scheme.need * cast
    if pro > 0 and enough_cast and enough_pro:
        return [STATE_PASSED, cast, pro, whole]
    return [STATE_FAILED, cast, pro, whole]


def count_votes(book, n):
    refusal = refusal_of_state(book, n, STATE_OPEN)
    if refusal != 0:
        return [refusal]
    scheme = book.schemes[n]
    tally = tally_of(scheme, book.funds[scheme.fund_number])
    scheme.state = tally[0]
    return tally
