"""Arms, and the trees in which they are neighbours."""

from middledots.dots import added, outer, parities, signed_arm, taken_off, times
from middledots.errors import CanNot, TooMany
from middledots.given import given_arm, given_count

MOST_NEIGHBOURS = 1000
MOST_ARMS = 2000


def inner(one, two):
    """The products of the first and of the second numbers of both pairs, added up."""
    return one[0] * two[0] + one[1] * two[1]


def mate_of(arm):
    """A pair of numbers with arm x pair 1."""
    # Division by Euclid: rest is always share[0] times x and share[1] times y, added up.
    rest, later = arm
    share, later_share = (1, 0), (0, 1)
    while later != 0:
        whole = rest // later
        rest, later = later, rest - whole * later
        share, later_share = later_share, taken_off(share, times(whole, later_share))
    return times(rest, (-share[1], share[0]))


def one_neighbour(arm):
    """A pair of numbers with arm x pair 2; all others are this one and even multiples of arm, added up."""
    return added(times(2, mate_of(arm)), arm)


def multiples_within(start, step, most):
    """From which to which number start + number times step is by size at most most; step is not 0."""
    if step < 0:
        start, step = -start, -step
    return (-((most + start) // step), (most - start) // step)


def least_pair(pair):
    """Whether pair, of numbers without a common divisor, is one of the least ARMS or the contrary of one."""
    return inner(pair, pair) <= 2


def elder_pair(pair):
    """The elder of pair, no least one, or the contrary of it: that of both which points the way of pair."""
    square, far = inner(pair, pair), one_neighbour(pair)
    near = taken_off(far, times(2 * ((inner(far, pair) + square) // (2 * square)), pair))
    return near if inner(near, pair) > 0 else times(-1, near)


def runs_between(arm, other):
    """The WAY from arm to other of one KIND: runs (start, step, many), many times start less step, up to signs."""
    # Told anew by other and its mate, other is (1, 0), the root of its tree: elders lead straight to it.
    mate = mate_of(other)
    spot = (outer(arm, mate), outer(other, arm))
    runs = []
    while not least_pair(spot):
        step = taken_off(spot, elder_pair(spot))
        square = inner(step, step)
        # As often as one more step still shortens.
        many = -((square - 2 * inner(spot, step)) // (2 * square))
        runs.append((told_back(spot, other, mate), told_back(step, other, mate), many))
        spot = taken_off(spot, times(many, step))
    return runs


def told_back(pair, first, second):
    """The pair of which so much of first and second is made."""
    return added(times(pair[0], first), times(pair[1], second))


def steps_of(runs):
    """How many steps these runs have."""
    return sum([run[2] for run in runs])


def arm_on(runs, other, number):
    """The ARM that is number steps from the beginning of the runs that lead to other."""
    for start, step, many in runs:
        if number < many:
            return signed_arm(taken_off(start, times(number, step)))
        number = number - many
    return other


def steps_apart(arm, other):
    """The length of the WAY between two ARMS of one KIND."""
    return steps_of(runs_between(arm, other))


def arms_along(arm, other):
    """The WAY from arm to other, of one KIND."""
    runs = runs_between(arm, other)
    stops = [taken_off(start, times(number, step)) for start, step, many in runs for number in range(many)]
    return tuple([signed_arm(stop) for stop in stops] + [other])


def arm_between(arm, other, number):
    """The ARM of the WAY from arm to other, of one KIND, that is number steps from arm."""
    return arm_on(runs_between(arm, other), other, number)


def are_near(arm, other):
    """Whether both ARMS are neighbours."""
    return abs(outer(arm, other)) == 2


def are_neighbours(arm, other):
    """Whether both ARMS are neighbours."""
    return are_near(given_arm(arm), given_arm(other))


def neighbours(arm, most):
    """The list of the neighbours of arm both numbers of which are by size at most most."""
    arm, most = given_arm(arm), given_count(most)
    start = one_neighbour(arm)
    lows, highs = [], []
    for number, share in zip(start, arm):
        if share == 0 and abs(number) > most:
            return []
        if share != 0:
            low, high = multiples_within(number, 2 * share, most)
            lows.append(low)
            highs.append(high)
    low, high = max(lows), min(highs)
    if high - low >= MOST_NEIGHBOURS:
        raise TooMany()
    return sorted([signed_arm(added(start, times(2 * many, arm))) for many in range(low, high + 1)])


def elder(arm):
    """The elder of arm; None if arm is one of the least."""
    arm = given_arm(arm)
    return None if least_pair(arm) else signed_arm(elder_pair(arm))


def root_of(arm):
    """The root of the KIND of arm."""
    # The KIND of an ARM is a pair of numbers 0 and 1, not both 0: that of the root is the root itself.
    return parities(given_arm(arm))


def depth(arm):
    """The length of the WAY from arm to the root of its KIND."""
    arm = given_arm(arm)
    return steps_apart(arm, parities(arm))


def given_alike(arm, other):
    """Both ARMS; CanNot() if their KINDS are unlike."""
    arm, other = given_arm(arm), given_arm(other)
    if parities(arm) != parities(other):
        raise CanNot()
    return (arm, other)


def way(arm, other):
    """The WAY from arm to other."""
    arm, other = given_alike(arm, other)
    if steps_apart(arm, other) >= MOST_ARMS:
        raise TooMany()
    return arms_along(arm, other)


def length(arm, other):
    """The length of the WAY from arm to other."""
    arm, other = given_alike(arm, other)
    return steps_apart(arm, other)


def at_step(arm, other, number):
    """The ARM of the WAY from arm to other that is number steps from arm."""
    arm, other, number = given_arm(arm), given_arm(other), given_count(number)
    arm, other = given_alike(arm, other)
    runs = runs_between(arm, other)
    if number > steps_of(runs):
        raise CanNot()
    return arm_on(runs, other, number)
