"""Programs that run together: how many of their weavings there are, and how many of these a control lets."""

from math import comb

from mustwait.judges import judge_of
from mustwait.kinds import MOST


def weavings(system, programs, control, *, most=MOST):
    """The number of all weavings of some programs, and of those that a control lets."""
    return (_many_weavings(programs), Loom(system, programs, judge_of(control, system, most)).many_let())


def _many_weavings(programs):
    many = 1
    steps = 0
    for program in programs:
        steps += len(program) + 1
        many = many * comb(steps, len(program) + 1)
    return many


class Loom:
    """Weaves programs step by step, as far as a control lets them."""

    def __init__(self, system, programs, judge):
        self.programs = programs
        self.judge = judge
        self.possible = [_answers_of(kind) for kind in system]

    def many_let(self):
        """The number of the weavings that are let."""
        state = self.judge.first()
        for _ in self.programs:
            state = self.judge.after(state, ("begin",))
        many = 0
        stack = [(state, tuple([0 for _ in self.programs]))]
        while stack:
            here, done = stack.pop()
            free = [number for number, program in enumerate(self.programs) if done[number] <= len(program)]
            if free == []:
                many += 1
            for number in free:
                after = self._stepped(here, number, done[number])
                if after is not None:
                    stack.append((after, done[:number] + (done[number] + 1,) + done[number + 1:]))
        return many

    def _stepped(self, state, number, at):
        """The state behind a step of a program, or None if it gets no answer."""
        program = self.programs[number]
        if at == len(program):
            return self.judge.after(state, ("commit", number))
        place, operation = program[at]
        for answer in self.possible[place].get(operation, []):
            thing = ("did", number, place, operation, answer)
            if self.judge.lets(state, thing):
                return self.judge.after(state, thing)
        return None


def _answers_of(kind):
    """For each operation its possible answers, ascending."""
    answers = {}
    for operation, answer in kind.events:
        answers.setdefault(operation, []).append(answer)
    return answers
