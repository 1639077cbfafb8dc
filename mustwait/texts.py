"""Texts of kinds: a line for each state."""


def text_of_states(states):
    """The text of the states of a kind."""
    return "\n".join([_line(number, state) for number, state in enumerate(states)])


def _line(number, state):
    steps = [f" {operation} {answer} {goal}" for operation, answer, goal in state]
    return f"{number}:" + ",".join(steps)


def states_of_text(text):
    """What a string says as the text of a kind: its states, if it is such a text.

    Otherwise the result is not the states of a kind: None stands for each line
    and each event that cannot be read, and what is said need not fit together.
    """
    lines = text.split("\n")
    # Looked up, not computed: so a zero ahead or a sign makes no number.
    numbers = {str(number): number for number in range(len(lines))}
    return tuple([_state_of_line(line, f"{number}:", numbers) for number, line in enumerate(lines)])


def _state_of_line(line, head, numbers):
    if line == head:
        return ()
    if not line.startswith(head):
        return None
    return tuple([_step_of_piece(piece, numbers) for piece in line[len(head):].split(",")])


def _step_of_piece(piece, numbers):
    parts = piece.split(" ")
    if len(parts) != 4 or parts[0] != "" or parts[3] not in numbers:
        return None
    return (parts[1], parts[2], numbers[parts[3]])
