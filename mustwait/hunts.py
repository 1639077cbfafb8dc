"""Hunts: the shortest histories of one object that one control lets and another one does not."""

# A history that tells two controls apart has so many transactions at most.
MOST_BEGUN = 3


class Scene:
    """The transactions of a history, and what may come next."""

    def __init__(self, history):
        # For each transaction the number of commits ahead of its beginning.
        self.ahead = []
        self.active = {}
        self.ended = {}
        commits = 0
        for thing in history:
            if thing[0] == "begin":
                self.ahead.append(commits)
            elif thing[0] == "did":
                self.active[thing[1]] = True
            else:
                self.ended[thing[1]] = True
                commits += 1 if thing[0] == "commit" else 0

    def standing(self):
        """How many transactions there are, and of those that have got nothing how many commits were ahead."""
        idle = [(number, many) for number, many in enumerate(self.ahead) if number not in self.active]
        return (len(self.ahead), tuple(idle))

    def answers(self, events):
        """The answers that may come next."""
        askers = [number for number in self.active if number not in self.ended]
        firsts = {}
        for number, many in self.standing()[1]:
            # Of those that differ in nothing so far the first one is enough.
            firsts.setdefault(many, number)
        return [("did", number, 0) + event for number in askers + list(firsts.values()) for event in events]

    def changes(self):
        """What else may come next; who has got nothing need not commit or abort, for it changes nothing."""
        found = [("begin",)] if len(self.ahead) < MOST_BEGUN else []
        for number in self.active:
            if number not in self.ended:
                found = found + [("commit", number), ("abort", number)]
        return found


class Hunt:
    """Looks through the histories that two controls let, the shortest ones first.

    Of those behind which the same may come it goes on with one alone.
    """

    def __init__(self, kind, one, other):
        self.chosen = kind.events
        self.one = one
        self.other = other
        self.level = [((), one.first(), other.first())]
        self.met = {}

    def found_next(self, is_last):
        """A history, one thing longer than those so far, that the one control lets and the other does not, or None."""
        longer = []
        for history, mine, theirs in self.level:
            scene = Scene(history)
            for thing in scene.answers(self.chosen):
                if self.one.lets(mine, thing):
                    if not self.other.lets(theirs, thing):
                        return history + (thing,)
                    self._keep(longer, history, mine, theirs, thing)
            # Only answers can tell controls apart: so nothing else comes last.
            if not is_last:
                for thing in scene.changes():
                    self._keep(longer, history, mine, theirs, thing)
        self.level = longer
        return None

    def _keep(self, longer, history, mine, theirs, thing):
        """Adds a history with one more thing to the longer ones, unless it is like one that was met."""
        after = history + (thing,)
        mine = self.one.after(mine, thing)
        theirs = self.other.after(theirs, thing)
        key = (Scene(after).standing(), self.one.key(mine), self.other.key(theirs))
        if key not in self.met:
            self.met[key] = True
            longer.append((after, mine, theirs))
