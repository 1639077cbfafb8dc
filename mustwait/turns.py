"""Turns: what comes of the wishes that wait, and of the log, behind an answer, a commit or an abort.

Wishes are a tuple, the one that has waited longest first.
"""

from mustwait.errors import TooMany
from mustwait.logs import with_abort, with_event
from mustwait.stories import folded


def turn(view, wishes):
    """The (view, wishes, news) behind a change of the log of a view."""
    view, wishes, news = _looked_again(view, wishes)
    return (folded_if_few(view), wishes, news)


def turn_of_abort(view, wishes, number):
    """The (view, wishes, news) behind the abort of a transaction."""
    return turn(view.after(with_abort(view.logged, number)), without_wish(wishes, number))


def without_wish(wishes, number):
    """The wishes but for that of a transaction."""
    return tuple([wish for wish in wishes if wish[0] != number])


def folded_if_few(view):
    """The view of the folded log, or of the log as it is if there are too many nodes."""
    if view.is_folded():
        return view
    try:
        log = folded(view.system, view.logged, most=view.most)
    except TooMany:
        return view
    return view if log == view.logged else view.after(log)


def _looked_again(view, wishes):
    news = ()
    at = 0
    while at < len(wishes):
        number, place, operation = wishes[at]
        status, answer = _verdict_again(view, wishes[at])
        if answer is not None:
            view = view.after(with_event(view.logged, number, (place, operation, answer)))
            at = 0
        if answer is not None or status == "never":
            news = news + ((number, answer),)
            wishes = without_wish(wishes, number)
        else:
            at += 1
    return (view, wishes, news)


def _verdict_again(view, wish):
    try:
        return view.verdict(wish)
    except TooMany:
        # Such a wish goes on waiting, whatever it waits for.
        return ("waits", None)
