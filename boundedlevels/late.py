"""EVENTs that are lost, late, or done twice."""

from boundedlevels.errors import Crossed, Gainsaid, Unlike
from boundedlevels.leasts import alike, equal_starts
from boundedlevels.nets import first_state, highest_path, highest_way, paths_to
from boundedlevels.plain import end_of, is_number, level_behind
from boundedlevels.rows import check_place, in_tuples, mirrored, mirrored_way
from boundedlevels.ways import Way, event_way, held, way_of


def without(row, place):
    """The ROW without the EVENT at this place."""
    check_place(row, place)
    return in_tuples([*row[:place], *row[place + 1:]])


def doubled(row, place, later=0):
    """The ROW in which this EVENT comes once more, behind so many of those behind it."""
    check_place(row, place)
    check_place(row, place + later)
    again = place + later + 1
    return in_tuples([*row[:again], row[place], *row[again:]])


def moved(row, place, goal):
    """The ROW in which this EVENT stands at the place goal."""
    check_place(row, place)
    check_place(row, goal)
    others = without(row, place)
    return in_tuples([*others[:goal], row[place], *others[goal:]])


def unlike_stretch(row, other):
    """The STRETCH of the starts for which two ROWs end unlike, where these are one; None if there are none."""
    same = equal_starts(row, other)
    if not same:
        return (None, None)
    first, last = same[0], same[-1]
    if first == (None, None):
        return None
    # The starts that end alike are below or above the others, or both: so what has no bound is at the end.
    least = first[1] + 1 if first[0] is None else None
    greatest = last[0] - 1 if last[1] is None else None
    return (least, greatest)


def lost_matters(row, place):
    """The STRETCH of the starts for which it matters if this EVENT is lost; None if there are none."""
    return unlike_stretch(row, without(row, place))


def doubled_matters(row, place, later=0):
    """The STRETCH of the starts for which it matters if this EVENT comes once more; None if there are none."""
    return unlike_stretch(row, doubled(row, place, later))


def moved_alike(row, place, goal):
    """The STRETCH of the starts for which it does not matter if this EVENT is moved; None if there are none."""
    same = equal_starts(row, moved(row, place, goal))
    return same[0] if same else None


def end_alike(row, other, start):
    """Whether two ROWs end alike for this start, for all starts if it is None."""
    if start is None:
        return alike(row, other)
    return end_of(row, start) == end_of(other, start)


def forgotten(row, place, start=None):
    """The least moment behind this EVENT at which the level is as it is without it; None if there is none."""
    check_place(row, place)
    for moment in range(place + 1, len(row) + 1):
        if end_alike(row[:moment], without(row[:moment], place), start):
            return moment
    return None


def needless(row):
    """The places of which each EVENT alone never matters if it is lost."""
    way = way_of(row)
    return [place for place in range(len(row)) if way_of(without(row, place)) == way]


def thinned(row):
    """What is left of the ROW if its first needless EVENT goes, again and again."""
    left = in_tuples(row)
    places = needless(left)
    while places:
        left = without(left, places[0])
        places = needless(left)
    return left


def has_each_once(order, many):
    """Whether it is a list or tuple of the numbers from 0 to many - 1, each once."""
    if not isinstance(order, (list, tuple)) or not all([is_number(place) for place in order]):
        return False
    return sorted(order) == list(range(many))


def in_order(row, order):
    """The ROW in this order."""
    if not has_each_once(order, len(row)):
        raise Unlike()
    return in_tuples([row[place] for place in order])


def is_late(thing, many, most):
    """Whether thing is an order of so many EVENTs that is late by at most most."""
    if not isinstance(thing, tuple) or not has_each_once(thing, many):
        return False
    greatest = -1
    for place in thing:
        if greatest - place > most:
            return False
        greatest = max(greatest, place)
    return True


def next_places(done, many, most):
    """The places that can be next in a late order, done having a bit for each one that has been."""
    first = 0
    while done >> first & 1:
        first += 1
    # Only the first one left sets a limit: it is the least of those that would be passed.
    return [place for place in range(first, min(first + most + 1, many)) if not done >> place & 1]


def late_net(ways, most):
    """The net of all orders, late by at most most, of EVENTs that have these Ways."""
    net = {}
    states = [0]
    for _ in range(len(ways) + 1):
        following = {}
        for done in states:
            places = next_places(done, len(ways), most)
            net[done] = [(place, ways[place], done | 1 << place) for place in places]
            for _, _, behind in net[done]:
                following[behind] = True
        states = list(following)
    return net


def how_many_late(many, most):
    """How many orders of so many EVENTs are late by at most most."""
    net = late_net([Way(0) for _ in range(many)], most)
    return paths_to(net, list(net)[-1])[first_state(net)]


def net_of_row(row, most):
    """The net of all orders of the ROW that are late by at most most."""
    return late_net([event_way(event) for event in row], most)


def late_ways(row, most):
    """The Ways that lead each start to the least and to the greatest end in all late orders."""
    least = highest_way(net_of_row(mirrored(row), most))
    return (mirrored_way(least), highest_way(net_of_row(row, most)))


def late_orders(row, most, start):
    """A late order with the least end for this start, and one with the greatest."""
    return (highest_path(net_of_row(mirrored(row), most), -start), highest_path(net_of_row(row, most), start))


def held_end(adds, floor, cap, start):
    """The level behind all adds, each sum being held at once."""
    if floor is not None and cap is not None and floor > cap:
        raise Crossed(floor, cap)
    level = start
    for number in adds:
        level = held(level + number, floor, cap)
    return level


def lowest_held_order(adds, most):
    """The late order with the least end: what is taken away comes as late as it can."""
    keys = [(place, 0, place) if number >= 0 else (place + most, 1, place) for place, number in enumerate(adds)]
    return tuple([place for _, _, place in sorted(keys)])


def held_orders(adds, most):
    """The late orders of the adds with the least and the greatest end, for every floor and cap."""
    return (lowest_held_order(adds, most), lowest_held_order([-number for number in adds], most))


def highest_with_lost(row, start, most):
    """The list of the greatest ends if at most 0, 1, .. EVENTs are lost, up to most or to all of them."""
    highest = [start for _ in range(min(most, len(row)) + 1)]
    for event in row:
        kept = [level_behind(event, level) for level in highest]
        # This EVENT is kept, or it is lost and one less of those ahead of it.
        highest = [kept[0]] + [max(level, lost) for level, lost in zip(kept[1:], highest)]
    return highest


def with_lost(row, start, most):
    """The least and the greatest end if at most so many EVENTs are lost."""
    least = -highest_with_lost(mirrored(row), -start, most)[-1]
    return (least, highest_with_lost(row, start, most)[-1])


def lost_to_rise(row, start, goal):
    """The least number of EVENTs with whose loss the end can be goal or more; None if it never can."""
    for many, level in enumerate(highest_with_lost(row, start, len(row))):
        if level >= goal:
            return many
    return None


def lost_to_sink(row, start, goal):
    """The least number of EVENTs with whose loss the end can be goal or less; None if it never can."""
    return lost_to_rise(mirrored(row), -start, -goal)


def sets_of_places(many, most):
    """All sets of at most so many places, those with fewer first, then ascending."""
    sets = newest = [()]
    for _ in range(min(most, many)):
        newest = [(*places, place) for places in newest for place in range(places[-1] + 1 if places else 0, many)]
        sets = sets + newest
    return sets


def end_without(row, start, lost):
    """The level at which the ROW ends if the EVENTs at these places are lost."""
    return end_of([event for place, event in enumerate(row) if place not in lost], start)


def lost_for(row, start, end, most):
    """All sets of at most so many places without which the ROW ends at this number."""
    return [lost for lost in sets_of_places(len(row), most) if end_without(row, start, lost) == end]


def surely_there(row, start, end, most):
    """The places that are in none of the sets of lost_for."""
    sets = lost_for(row, start, end, most)
    if not sets:
        raise Gainsaid()
    return tuple([place for place in range(len(row)) if not any([place in lost for lost in sets])])
