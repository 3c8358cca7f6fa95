"""What several files need of ROWs: places, tuples for lists, and the mirror.

In the mirror each level n is -n: what lifts here cuts there, and the least end here
is the greatest one there. So a question about least ends is the one about greatest
ends, asked of the mirrored ROW.
"""

from boundedlevels.errors import NoPlace
from boundedlevels.ways import Way

MIRRORED_WORDS = {"add": "add", "floor": "cap", "cap": "floor"}


def in_tuples(row):
    """The ROW as a tuple of pairs, whatever lists it was handed in as."""
    return tuple([(word, number) for word, number in row])


def check_place(row, place):
    """Raises NoPlace if the number is no place of the ROW."""
    if not 0 <= place < len(row):
        raise NoPlace(place)


def check_moment(row, moment):
    """Raises NoPlace if the number is no moment of the ROW."""
    if not 0 <= moment <= len(row):
        raise NoPlace(moment)


def mirrored(row):
    """The ROW that leads -start to -end where this one leads the start to the end."""
    return tuple([(MIRRORED_WORDS[word], -number) for word, number in row])


def mirrored_bound(bound):
    """The BOUND in the mirror."""
    return None if bound is None else -bound


def mirrored_way(way):
    """The Way that leads -start to -end where this one leads the start to the end."""
    return Way(mirrored_bound(way.shift), mirrored_bound(way.cap), mirrored_bound(way.floor))
