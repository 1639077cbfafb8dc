"""Subsets of ascending tuples, and what collections of subsets have in common."""


def subsets(numbers):
    """Yields all subsets of an ascending tuple, as ascending tuples, ascending as tuples compare."""
    stack = [((), 0)]
    while stack:
        chosen, at = stack.pop()
        yield chosen
        for after in reversed(list(range(at, len(numbers)))):
            stack.append((chosen + (numbers[after],), after + 1))


def least_pairs(numbers, collection):
    """The least pairs (ins, outs) such that all subsets with all ins and no outs are in a collection.

    Each is least: no other such pair has its ins and its outs among these.
    """
    bits = {number: 1 << at for at, number in enumerate(numbers)}
    masks = [sum([bits[number] for number in chosen]) for chosen in collection]
    found = []
    # A pair is (loose, ins): the bits of what is neither in nor out, and those of what is in.
    # Two pairs that differ in one number make a lesser one; those that make none are least.
    level = {(0, mask): True for mask in masks}
    while level:
        level = _lesser(level, bits, found)
    return found


def _lesser(level, bits, found):
    """The lesser pairs that those of a level make; those that make none are told in found."""
    lesser = {}
    for loose, ins in level:
        made = _made(level, loose, ins, bits)
        if not made:
            found.append(_told(bits, loose, ins))
        for pair in made:
            lesser[pair] = True
    return lesser


def _made(level, loose, ins, bits):
    """The lesser pairs that a pair makes with others."""
    return [(loose | bit, ins & ~bit) for bit in bits.values() if not loose & bit and (loose, ins ^ bit) in level]


def _told(bits, loose, ins):
    commits = tuple([number for number, bit in bits.items() if ins & bit])
    aborts = tuple([number for number, bit in bits.items() if not (ins | loose) & bit])
    return (commits, aborts)
