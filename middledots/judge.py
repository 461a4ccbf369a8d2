"""One judge: whether demands stand, papers against them and reasons for them."""

from middledots.demands import case_of, fits_demand
from middledots.given import given, given_all


def given_case(demand):
    """The object that judges a DEMAND."""
    return case_of(given(demand, 4, fits_demand))


def is_demand(thing):
    """Whether thing is a DEMAND."""
    return fits_demand(thing)


def is_so(demand):
    """Whether demand stands."""
    return given_case(demand).stands()


def paper_against(demand):
    """A PAPER against demand; None if it stands."""
    case = given_case(demand)
    return None if case.stands() else case.paper()


def is_paper_against(demand, thing):
    """Whether thing is a PAPER against demand."""
    case = given_case(demand)
    return not case.stands() and case.is_paper(thing)


def reason_for(demand):
    """A REASON for demand; None if it does not stand."""
    case = given_case(demand)
    return case.reason() if case.stands() else None


def is_reason_for(demand, thing):
    """Whether thing is a REASON for demand."""
    case = given_case(demand)
    return case.stands() and case.is_reason(thing)


def first_fallen(demands):
    """The number of the first of demands that does not stand; None if all stand."""
    for at, demand in enumerate(given_all(demands, 4, fits_demand)):
        case = case_of(demand)
        if not case.stands():
            return at
    return None
