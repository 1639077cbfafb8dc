"""Closed tuples of nodes: whether any value is one."""

from mustwait.checks import ascends, is_numbers, is_start, is_states_of
from mustwait.nodes import OrderWeb
from mustwait.webs import bits_of


def is_closed_orders(system, rows, starts, barred, thing):
    """Whether any value is a closed tuple of order nodes of rows, none of which has all entries of a mask."""
    if not _is_nodes(rows, 2, thing) or not all([is_start(system, node[1]) for node in thing]):
        return False
    web = OrderWeb(rows)
    nodes = [(rows.mask(members), states) for members, states in thing]
    return ascends(thing) and _avoids(nodes, barred) and _is_closed(web, starts, nodes)


def is_closed_stories(system, web, starts, barred, thing):
    """Whether any value is a closed tuple of story nodes of a web, none of which has all entries of a mask."""
    if not _is_nodes(web.rows, 2, thing) or not all([_is_sets(system, node[1]) for node in thing]):
        return False
    nodes = [(web.rows.mask(members), _bits(sets)) for members, sets in thing]
    return ascends(thing) and _avoids(nodes, barred) and _is_closed(web, starts, nodes)


def is_closed_lots(system, web, starts, barred, thing):
    """Whether any value is a closed tuple of nodes of a lot web, no strayed one of which has all entries of a mask."""
    if not _is_nodes(web.rows, 3, thing):
        return False
    if not all([_is_sets(system, node[1]) and isinstance(node[2], bool) for node in thing]):
        return False
    nodes = [(web.rows.mask(members), _bits(sets), strayed) for members, sets, strayed in thing]
    strayed_ones = [node for node in nodes if node[2]]
    return ascends(thing) and _avoids(strayed_ones, barred) and _is_closed(web, starts, nodes)


def _is_nodes(rows, many, thing):
    """Whether any value is a tuple of tuples of so many parts, the first of each the members."""
    return isinstance(thing, tuple) and all([_is_node(rows, many, node) for node in thing])


def _is_node(rows, many, thing):
    if not isinstance(thing, tuple) or len(thing) != many or not is_numbers(thing[0]):
        return False
    return all([number in rows.indices for number in thing[0]])


def _is_sets(system, thing):
    """Whether any value is a tuple with a set of states for each object."""
    if not isinstance(thing, tuple) or len(thing) != len(system):
        return False
    return all([is_states_of(kind, part) for kind, part in zip(system, thing)])


def _bits(sets):
    return tuple([bits_of(states) for states in sets])


def _avoids(nodes, barred):
    return all([node[0] & barred != barred for node in nodes])


def _is_closed(web, starts, nodes):
    """Whether nodes contain all first ones and all to which steps lead from them."""
    known = {node: True for node in nodes}
    if not all([first in known for first in web.firsts(starts)]):
        return False
    for node in nodes:
        for _, goal in web.steps(node):
            if goal not in known:
                return False
    return True
