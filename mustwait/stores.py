"""Stores: transactions on objects, each answered as soon as it can be."""

from mustwait.certificates import decide
from mustwait.errors import Full, IsWaiting, Never, NoObject, NoOperation, NotOpen, StoreError
from mustwait.kinds import MOST, is_number
from mustwait.knots import greatest_knot, remedies_of
from mustwait.logs import committed_of, first_log, opened_of, with_abort, with_begin, with_commit, with_event
from mustwait.turns import folded_if_few, turn, turn_of_abort, without_wish
from mustwait.views import Known, View

MOST_ENTRIES = 10


class Store:
    """A store of one to four objects."""

    def __init__(self, *kinds, most=MOST):
        self.system = kinds
        self.most = most
        self.view = View(kinds, first_log(kinds), most, Known(kinds))
        self.kept_wishes = ()
        self.kept_news = ()
        self.active = ()
        self.begun = 0

    @classmethod
    def of(cls, system, *, most=MOST):
        """A store of the objects of a system."""
        return cls(*system, most=most)

    @classmethod
    def from_log(cls, system, log, *, most=MOST):
        """A store with a log, all of whose open entries have aborted."""
        store = cls(*system, most=most)
        store._take_over(log)
        return store

    def _take_over(self, log):
        """Goes on from a log, all of whose open entries abort."""
        self.begun = max([entry[0] + 1 for entry in log[1]], default=0)
        for number in opened_of(log):
            log = with_abort(log, number)
        self.view = folded_if_few(self.view.after(log))

    def __len__(self):
        return len(self.view.logged[1])

    def __iter__(self):
        return iter(self.active)

    def __contains__(self, number):
        return is_number(number) and number in self.active

    @property
    def log(self):
        """The log."""
        return self.view.logged

    @property
    def running(self):
        """The open transactions, ascending."""
        return self.active

    @property
    def waiting(self):
        """The transactions that wait, the one that has waited longest first."""
        return tuple([wish[0] for wish in self.kept_wishes])

    @property
    def news(self):
        """What came of waiting wishes by the last call of ask, drop, commit or abort."""
        return self.kept_news

    def begin(self):
        """Begins a transaction; returns its number."""
        if len(self) >= MOST_ENTRIES:
            raise Full(self._holders())
        number = self.begun
        self.begun += 1
        self.view = self.view.after(with_begin(self.view.logged, number))
        self.active = opened_of(self.view.logged)
        return number

    def _holders(self):
        committed = committed_of(self.view.logged)
        return tuple([entry[0] for entry in self.view.logged[1] if not entry[1] and entry[2] != committed])

    def ask(self, number, place, operation):
        """The answer to an operation of an object, or None if the wish waits."""
        self._check_wish(number, place, operation)
        wish = (number, place, operation)
        status, answer = self.view.verdict(wish)
        if status == "never":
            raise Never(number)
        if answer is None:
            self.kept_wishes = self.kept_wishes + (wish,)
            self.kept_news = ()
        else:
            longer = with_event(self.view.logged, number, (place, operation, answer))
            self._keep(turn(self.view.after(longer), self.kept_wishes))
        return answer

    def _check_wish(self, number, place, operation):
        self._check_open(number)
        if not is_number(place) or place >= len(self.system):
            raise NoObject(place)
        if operation not in self.system[place].operations:
            raise NoOperation(operation)
        if number in self.waiting:
            raise IsWaiting(number)

    def _check_open(self, number):
        if number not in self:
            raise NotOpen(number)

    def _keep(self, told):
        self.view, self.kept_wishes, self.kept_news = told
        self.active = opened_of(self.view.logged)

    def drop(self, number):
        """Drops the wish of a transaction, if there is one."""
        self._check_open(number)
        self.kept_wishes = without_wish(self.kept_wishes, number)
        self.kept_news = ()

    def commit(self, number):
        """Commits a transaction."""
        self._check_open(number)
        others = without_wish(self.kept_wishes, number)
        self._keep(turn(self.view.after(with_commit(self.view.logged, number)), others))

    def abort(self, number):
        """Aborts a transaction."""
        self._check_open(number)
        self._keep(turn_of_abort(self.view, self.kept_wishes, number))

    def wish(self, number):
        """The wish of a transaction that waits, None otherwise."""
        for wish in self.kept_wishes:
            if is_number(number) and wish[0] == number:
                return wish
        return None

    def why(self, number):
        """Any decision for the wish of a transaction, None if it has none that waits."""
        wish = self.wish(number)
        if wish is None:
            return None
        return decide(self.system, self.view.logged, wish, most=self.most)

    def knot(self):
        """The greatest knot, ascending."""
        return greatest_knot(self.view, self.kept_wishes)

    def remedies(self):
        """The ascending tuple of all remedies of the greatest knot."""
        return remedies_of(self.view, self.kept_wishes)

    def within(self, action):
        """Runs an action with the number of a transaction, which commits, or aborts if a StoreError leaves it."""
        number = self.begin()
        try:
            result = action(number)
        except StoreError:
            if number in self:
                self.abort(number)
            raise
        if number in self:
            self.commit(number)
        return result
