"""Demands: what is said of a field, what stands against it and what stands for it."""

from middledots.allcuts import cuts_with, has_all
from middledots.arms import steps_apart
from middledots.dots import added, part_each_other
from middledots.edges import edges_there, first_pair, fits_held, lies_among, stand_among
from middledots.fewest import arms_at, fewest_between, plan_between, ways_between
from middledots.fields import is_field, rim_round
from middledots.given import fits_edge, fits_edges, is_like, is_number
from middledots.lots import first_cut_with
from middledots.nearest import nearest_to
from middledots.nets import fits_cut
from middledots.turns import fits_plan, leads_to


class Stand:
    """edges, lying in field or not, stand together in it."""

    def __init__(self, field, edges):
        self.field = field
        self.edges = edges

    def stands(self):
        """Whether it is so."""
        return stand_among(self.field, self.edges)

    def paper(self):
        """What shows that it is not so."""
        outside = [edge for edge in self.edges if not lies_among(self.field, edge)]
        return tuple(outside[:1]) if outside else first_pair(self.edges)

    def is_paper(self, thing):
        """Whether thing shows that it is not so."""
        if not fits_edges(thing) or not all([edge in self.edges for edge in thing]):
            return False
        if len(thing) == 2:
            return part_each_other(thing[0], thing[1])
        return len(thing) == 1 and not lies_among(self.field, thing[0])

    def reason(self):
        """What shows that it is so."""
        return first_cut_with(self.field, self.edges)

    def is_reason(self, thing):
        """Whether thing shows that it is so."""
        return fits_cut(self.field, thing) and has_all(self.field, thing, self.edges)


class Fewest:
    """The shortest PLANS from cut to other are of number TURNS at most."""

    def __init__(self, field, cut, other, number):
        self.field = field
        self.cut = cut
        self.other = other
        self.number = number

    def stands(self):
        """Whether it is so."""
        return fewest_between(self.cut, self.other) <= self.number

    def paper(self):
        """What shows that it is not so."""
        return ways_between(self.cut, self.other)

    def is_paper(self, thing):
        """Whether thing shows that it is not so."""
        return is_like(thing, self.paper())

    def reason(self):
        """What shows that it is so."""
        return plan_between(self.field, self.cut, self.other)

    def is_reason(self, thing):
        """Whether thing shows that it is so."""
        return fits_plan(thing) and len(thing) <= self.number and leads_to(self.field, self.cut, self.other, thing)


class Nearest:
    """No CUT with edges is fewer TURNS from cut than other, which has them."""

    def __init__(self, field, cut, edges, other):
        self.field = field
        self.cut = cut
        self.edges = edges
        self.other = other

    def stands(self):
        """Whether it is so."""
        # One CUT alone is nearest.
        return self.paper() == self.other

    def paper(self):
        """What shows that it is not so."""
        return nearest_to(self.field, self.cut, self.edges)

    def is_paper(self, thing):
        """Whether thing shows that it is not so."""
        if not fits_cut(self.field, thing) or not has_all(self.field, thing, self.edges):
            return False
        return fewest_between(self.cut, thing) < fewest_between(self.cut, self.other)

    def reason(self):
        """What shows that it is so."""
        arms, others = arms_at(self.cut), arms_at(self.other)
        return tuple([steps_apart(arms[middle], others[middle]) for middle in arms])

    def is_reason(self, thing):
        """Whether thing shows that it is so."""
        return is_like(thing, self.reason())


class Sure:
    """All CUTS of field have edge, one that lies in it, no rim EDGE."""

    def __init__(self, field, edge):
        low, high = edge
        self.field = field
        self.edge = edge
        self.lot = edges_there(field, added(low, high))

    def stands(self):
        """Whether it is so."""
        return self.lot == [self.edge]

    def paper(self):
        """What shows that it is not so."""
        others = [edge for edge in self.lot if edge != self.edge]
        return first_cut_with(self.field, (others[0],))

    def is_paper(self, thing):
        """Whether thing shows that it is not so."""
        return fits_cut(self.field, thing) and self.edge not in thing

    def reason(self):
        """What shows that it is so."""
        return tuple(self.lot)

    def is_reason(self, thing):
        """Whether thing shows that it is so."""
        return is_like(thing, self.reason())


class Many:
    """At most number CUTS have all of edges, which stand together, but rim ones; TooMany() as all_cuts."""

    def __init__(self, field, edges, number):
        self.cuts = tuple(cuts_with(field, edges))
        self.number = number

    def stands(self):
        """Whether it is so."""
        return len(self.cuts) <= self.number

    def paper(self):
        """What shows that it is not so."""
        return self.cuts[:self.number + 1]

    def is_paper(self, thing):
        """Whether thing shows that it is not so."""
        if not isinstance(thing, tuple) or len(thing) != self.number + 1:
            return False
        # Of the CUTS, ascending, a set of them has one after another.
        at = 0
        for cut in self.cuts:
            if at < len(thing) and is_like(thing[at], cut):
                at += 1
        return at == len(thing)

    def reason(self):
        """What shows that it is so."""
        return self.cuts

    def is_reason(self, thing):
        """Whether thing shows that it is so."""
        return is_like(thing, self.cuts)


def fits_stand(field, parts):
    """Whether parts are what stands behind the FIELD in a DEMAND of the word "stand"."""
    return len(parts) == 1 and fits_edges(parts[0])


def fits_fewest(field, parts):
    """Likewise for "fewest"."""
    return len(parts) == 3 and fits_cut(field, parts[0]) and fits_cut(field, parts[1]) and fits_number(parts[2])


def fits_nearest(field, parts):
    """Likewise for "nearest"."""
    if len(parts) != 3 or not fits_cut(field, parts[0]) or not fits_held(field, parts[1]):
        return False
    return fits_cut(field, parts[2]) and has_all(field, parts[2], parts[1])


def fits_sure(field, parts):
    """Likewise for "sure"."""
    return len(parts) == 1 and fits_edge(parts[0]) and parts[0] not in rim_round(field) and lies_among(field, parts[0])


def fits_many(field, parts):
    """Likewise for "many"."""
    return len(parts) == 2 and fits_held(field, parts[0]) and fits_number(parts[1])


def fits_number(thing):
    """Whether thing is a number from 0."""
    return is_number(thing) and thing >= 0


FITS = {"stand": fits_stand, "fewest": fits_fewest, "nearest": fits_nearest, "sure": fits_sure, "many": fits_many}


def fits_demand(thing):
    """Whether thing is a DEMAND."""
    if not isinstance(thing, tuple) or len(thing) < 2 or not isinstance(thing[0], str) or thing[0] not in FITS:
        return False
    fits = FITS[thing[0]]
    return is_field(thing[1]) and fits(thing[1], thing[2:])


def case_of(demand):
    """The object that judges a DEMAND."""
    word, parts = demand[0], demand[1:]
    if word == "stand":
        return Stand(*parts)
    if word == "fewest":
        return Fewest(*parts)
    if word == "nearest":
        return Nearest(*parts)
    if word == "sure":
        return Sure(*parts)
    return Many(*parts)
