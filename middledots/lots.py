"""Lots: at each middle the edges of which one can be chosen."""

from middledots.dots import added, part_each_other
from middledots.edges import edges_among, uncrossed
from middledots.errors import TooMany

# So finely the choices of a lot are shared out by its weight.
FINENESS = 1000000


def lots_of(edges):
    """The ascending EDGES, parted by their MIDDLES: a list for each MIDDLE, ascending."""
    lots = {}
    for low, high in edges:
        lots.setdefault(added(low, high), []).append((low, high))
    return [lots[middle] for middle in sorted(lots)]


def middle_at(lot):
    """The MIDDLE at which the EDGES of lot are."""
    low, high = lot[0]
    return added(low, high)


def lots_beside(field, edges):
    """For each MIDDLE of field, ascending, the list, ascending, of the EDGES that are free beside edges."""
    return lots_of(uncrossed(edges_among(field), edges))


def lots_behind(lots, edge):
    """The lots but the first one, of whose EDGES edge has been chosen: without those that cross it."""
    # What is free at a MIDDLE alone is in each CUT that can come, so it crosses nothing that is free.
    if len(lots[0]) == 1:
        return lots[1:]
    return [uncrossed(lot, (edge,)) for lot in lots[1:]]


def chosen_among(lots, number):
    """The CUT that number tells among free EDGES, figure by figure: of q in the lot, that of number modulo q."""
    chosen = []
    while lots:
        number, at = divmod(number, len(lots[0]))
        chosen.append(lots[0][at])
        lots = lots_behind(lots, chosen[-1])
    return tuple(sorted(chosen))


def first_cut_with(field, edges):
    """The CUT with edges, rim ones apart, that has at each other MIDDLE in turn the least EDGE that can stand there."""
    return chosen_among(lots_beside(field, edges), 0)


def number_among(lots, cut):
    """The least number that tells this CUT so."""
    there = {added(low, high): (low, high) for low, high in cut}
    number, weight = 0, 1
    while lots:
        edge = there[middle_at(lots[0])]
        number += weight * lots[0].index(edge)
        weight *= len(lots[0])
        lots = lots_behind(lots, edge)
    return number


def cuts_among(lots, most):
    """The list, ascending, of the CUTS with one EDGE of each lot; TooMany() if they are more than most."""
    edges = [edge for lot in lots for edge in lot]
    places = {edge: at for at, edge in enumerate(edges)}
    weights = [1] * len(lots)
    crossed = {}
    found = []
    waiting = [([], [(own, [places[edge] for edge in lot]) for own, lot in enumerate(lots)])]
    while waiting:
        chosen, left = waiting.pop()
        if left == []:
            found.append(tuple(sorted([edges[own] for own in chosen])))
            if len(found) > most:
                raise TooMany()
            continue
        choices, others = next_lot(left, weights)
        for at in choices:
            if at not in crossed:
                crossed[at] = [part_each_other(edges[at], edge) for edge in edges]
            narrowed = narrowed_lots(others, crossed[at], weights)
            if narrowed is not None:
                waiting.append((chosen + [at], narrowed))
    return sorted(found)


def next_lot(lots, weights):
    """What can be chosen of the lot to go on with, and the other lots."""
    # Where the fewest choices are left; but what was often left without one is asked sooner: else one would find out
    # late, again and again, that nothing can be chosen there.
    marks = [len(lot) * FINENESS // weights[own] for own, lot in lots]
    at = marks.index(min(marks))
    return (lots[at][1], lots[:at] + lots[at + 1:])


def narrowed_lots(lots, crossed, weights):
    """The lots without what is crossed; None if nothing is left of one, which weighs more from then on."""
    narrowed = []
    for own, lot in lots:
        left = [at for at in lot if not crossed[at]]
        if left == []:
            weights[own] += 1
            return None
        narrowed.append((own, left))
    return narrowed
