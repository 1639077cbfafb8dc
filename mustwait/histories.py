"""Histories and logs: whether any value is one, the log of a history, texts of histories."""

from mustwait.checks import ascends, events_of, is_answer, is_numbers, is_row, is_start
from mustwait.errors import InvalidText
from mustwait.kinds import is_number
from mustwait.logs import first_log, with_thing


def is_history(system, thing):
    """Whether any value is a history of a system."""
    if not isinstance(thing, tuple):
        return False
    events = events_of(system)
    opened = []
    for part in thing:
        if not _follows(events, opened, part):
            return False
        _take(opened, part)
    return True


def _follows(events, opened, thing):
    """Whether any value is a thing that may come next; opened tells of each transaction whether it is open."""
    if not isinstance(thing, tuple) or thing == ():
        return False
    if len(thing) == 1:
        return thing[0] == "begin"
    if not is_number(thing[1]) or thing[1] >= len(opened) or not opened[thing[1]]:
        return False
    if len(thing) == 2:
        return thing[0] == "commit" or thing[0] == "abort"
    return len(thing) == 5 and thing[0] == "did" and is_answer(events, thing[2], thing[3], thing[4])


def _take(opened, thing):
    if thing[0] == "begin":
        opened.append(True)
    elif thing[0] != "did":
        opened[thing[1]] = False


def is_log(system, thing):
    """Whether any value is a log of a system."""
    if not isinstance(thing, tuple) or len(thing) != 2:
        return False
    return _is_starts(system, thing[0]) and _is_entries(events_of(system), thing[1])


def _is_starts(system, thing):
    if not isinstance(thing, tuple) or thing == ():
        return False
    return all([is_start(system, start) for start in thing]) and ascends(thing)


def _is_entries(events, thing):
    if not isinstance(thing, tuple) or not all([_is_entry(events, entry) for entry in thing]):
        return False
    return is_numbers(tuple([entry[0] for entry in thing])) and _is_closed(thing)


def _is_entry(events, thing):
    if not isinstance(thing, tuple) or len(thing) != 4:
        return False
    number, committed, earlier, row = thing
    if not is_number(number) or not isinstance(committed, bool):
        return False
    return is_numbers(earlier) and is_row(events, row)


def _is_closed(entries):
    """Whether only committed entries are before others, and with each one all that are before it."""
    # For each committed entry so far its bit, and the bits of all that are before it.
    bits = {}
    before = {}
    for number, committed, earlier, _ in entries:
        # Only lesser numbers have a bit yet, so a greater one is missing here, too.
        if not all([other in bits for other in earlier]):
            return False
        mask = sum([bits[other] for other in earlier])
        if not all([before[other] & mask == before[other] for other in earlier]):
            return False
        if committed:
            bits[number] = 1 << len(bits)
            before[number] = mask
    return True


def log_of(system, history):
    """The log of a history."""
    log = first_log(system)
    begun = 0
    for thing in history:
        log = with_thing(log, thing, begun)
        if thing[0] == "begin":
            begun += 1
    return log


def history_text(history):
    """The text of a history."""
    return "\n".join([_line(thing) for thing in history])


def _line(thing):
    words = thing[1:] if thing[0] == "did" else thing
    return " ".join([str(word) for word in words])


def read_history(system, text):
    """The history of a system with a text."""
    if not isinstance(text, str):
        raise InvalidText()
    history = _things(system, text)
    if not is_history(system, history):
        raise InvalidText()
    return history


def _things(system, text):
    """What a string says as the text of a history; None stands for each line that cannot be read."""
    if text == "":
        return ()
    lines = text.split("\n")
    # Looked up, not computed: so a zero ahead or a sign makes no number.
    numbers = {str(number): number for number in range(len(lines) + len(system))}
    return tuple([_thing(line.split(" "), numbers) for line in lines])


def _thing(words, numbers):
    if words == ["begin"]:
        return ("begin",)
    if len(words) == 2 and words[1] in numbers:
        return (words[0], numbers[words[1]])
    if len(words) == 4 and words[0] in numbers and words[1] in numbers:
        return ("did", numbers[words[0]], numbers[words[1]], words[2], words[3])
    return None
