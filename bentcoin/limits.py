"""What no recipe of a number of tosses can have: the certificates of "dear" claims."""

from math import comb

from bentcoin.forms import squeeze_form, to_form
from bentcoin.kinds import begins_with, is_index
from bentcoin.rationals import named_part, rational_degree


def shows_dear(q, tosses, certificate):
    """Tell whether any value shows that the search finds no recipe of at most so many tosses."""
    degree = rational_degree(q)
    if begins_with(certificate, "short", 1):
        return tosses < degree
    if begins_with(certificate, "signs", 3):
        _, which, k = certificate
        return tosses >= degree and is_negative_at(q, which, tosses, k)
    if begins_with(certificate, "room", 5):
        _, raised, which, k, j = certificate
        if not is_index(raised, tosses - degree + 1) or not is_index(j, tosses + 1):
            return False
        return is_first_raise(q, raised, which, k) and lacks_room(q, tosses, raised, j)
    return False


def is_negative_at(q, which, degree, k):
    """Tell whether the form of this degree of the polynomial that any value names is negative at k."""
    if which not in ("upper", "rest") or not is_index(k, degree + 1):
        return False
    return to_form(named_part(q, which), degree)[k] < 0


def is_first_raise(q, raised, which, k):
    """Tell whether so many raises are the fewest that leave no negative entry, as the name and k show."""
    degree = rational_degree(q) + raised
    for part in ("upper", "rest"):
        if min(to_form(named_part(q, part), degree)) < 0:
            return False
    if raised == 0:
        return which == "upper" and is_index(k, 1)
    return is_negative_at(q, which, degree - 1, k)


def lacks_room(q, tosses, raised, j):
    """Tell whether the denominator has more rows at j than there are, even with the most squeezes."""
    squeezes = (tosses - rational_degree(q) - raised) // 2
    return squeeze_form(q[1], tosses, squeezes)[j] > comb(tosses, j)
