"""Turns: what comes of the wishes that wait, and of the log, behind an answer, a commit or an abort.

Wishes are a tuple, the one that has waited longest first.
"""

from mustwait.errors import TooMany
from mustwait.logs import with_abort, with_event
from mustwait.stories import folded
from mustwait.wishes import verdict


def turn(system, log, wishes, most):
    """The (log, wishes, news) behind a change of a log."""
    log, wishes, news = _looked_again(system, log, wishes, most)
    return (folded_if_few(system, log, most), wishes, news)


def turn_of_abort(system, log, wishes, number, most):
    """The (log, wishes, news) behind the abort of a transaction."""
    return turn(system, with_abort(log, number), without_wish(wishes, number), most)


def without_wish(wishes, number):
    """The wishes but for that of a transaction."""
    return tuple([wish for wish in wishes if wish[0] != number])


def folded_if_few(system, log, most):
    """The folded log, or the log as it is if there are too many nodes."""
    try:
        return folded(system, log, most=most)
    except TooMany:
        return log


def _looked_again(system, log, wishes, most):
    news = ()
    at = 0
    while at < len(wishes):
        number, place, operation = wishes[at]
        status, answer = _verdict_again(system, log, wishes[at], most)
        if answer is not None:
            log = with_event(log, number, (place, operation, answer))
            at = 0
        if answer is not None or status == "never":
            news = news + ((number, answer),)
            wishes = without_wish(wishes, number)
        else:
            at += 1
    return (log, wishes, news)


def _verdict_again(system, log, wish, most):
    try:
        return verdict(system, log, wish, most)
    except TooMany:
        # Such a wish goes on waiting, whatever it waits for.
        return ("waits", None)
