"""Heaps: what is done in an unknown order, EVENTs, additions that are held, STEPs and whole ROWs."""

from boundedlevels.late import has_each_once, late_net
from boundedlevels.nets import ends_of, first_state, highest_path, highest_way, least_path, paths_to
from boundedlevels.plain import level_behind
from boundedlevels.rows import in_tuples, mirrored, mirrored_way
from boundedlevels.ways import Way, event_way, held, way_of


def is_order(many, thing):
    """Whether thing is an ORDER of so many things."""
    # The length first: many can be far greater than what a list of places could hold.
    return isinstance(thing, tuple) and len(thing) == many and has_each_once(thing, many)


def heap_row(heap, order):
    """The ROW that a HEAP makes in an ORDER."""
    return in_tuples([heap[place] for place in order])


def rank_for_greatest(event):
    """Where an EVENT comes for the greatest end: takings, caps, floors, and what is added."""
    word, number = event
    if word == "add":
        return 0 if number < 0 else 3
    return 1 if word == "cap" else 2


def highest_order(heap):
    """An ORDER whose ROW ends for all starts at the greatest end."""
    ranks = [(rank_for_greatest(event), place) for place, event in enumerate(heap)]
    return tuple([place for _, place in sorted(ranks)])


def lowest_order(heap):
    """An ORDER whose ROW ends for all starts at the least end."""
    return highest_order(mirrored(heap))


def highest_heap(heap):
    """The Way that leads each start to the greatest end of a HEAP in all ORDERs."""
    return way_of(heap_row(heap, highest_order(heap)))


def lowest_heap(heap):
    """The Way that leads each start to the least end of a HEAP in all ORDERs."""
    return way_of(heap_row(heap, lowest_order(heap)))


def orders_net(ways):
    """The net of all ORDERs of what has these Ways; a state has a bit for each place that is done."""
    return late_net(ways, len(ways))


def heap_net(heap):
    """The net of all ORDERs of a HEAP."""
    return orders_net([event_way(event) for event in heap])


def ends_heap(heap, start):
    """The pairs (end, many), ascending: each end, with the number of the ORDERs that end there."""
    return sorted(list(ends_of(heap_net(heap), start).items()))


def added_by(heap, done):
    """The sum of the adds at the places that are done."""
    return sum([number for place, (word, number) in enumerate(heap) if word == "add" and done >> place & 1])


def quiet_net(heap, start):
    """The net of the ORDERs, without the steps that lift or cut."""
    net = {}
    for done, steps in heap_net(heap).items():
        level = start + added_by(heap, done)
        net[done] = [(place, way, behind) for place, way, behind in steps
                     if heap[place][0] == "add" or level_behind(heap[place], level) == level]
    return net


def last_state(net):
    """The state in which all is done."""
    return list(net)[-1]


def quiet_orders(heap, start):
    """How many ORDERs are quiet for this start."""
    net = quiet_net(heap, start)
    return paths_to(net, last_state(net))[first_state(net)]


def quiet_order(heap, start):
    """The least ORDER that is quiet for this start; None if there is none."""
    net = quiet_net(heap, start)
    return least_path(net, last_state(net))


def highest_held(adds, floor, cap, start):
    """The greatest end over all ORDERs in which these numbers are added and held."""
    taken = sum([number for number in adds if number < 0])
    added = sum([number for number in adds if number > 0])
    return held(held(start + taken, floor, cap) + added, floor, cap)


def lowest_held(adds, floor, cap, start):
    """The least end over all ORDERs in which these numbers are added and held."""
    return -highest_held([-number for number in adds], -cap, -floor, -start)


def steps_way(steps, order):
    """The Way of the STEPS in this ORDER."""
    way = Way(0)
    for place in order:
        added, least = steps[place]
        way = way >> Way(added, least)
    return way


def lowest_step_order(steps):
    """An ORDER of the STEPS with the least end for all starts."""
    keys = [(0, least - added, place) if added >= 0 else (1, -least, place)
            for place, (added, least) in enumerate(steps)]
    return tuple([place for _, _, place in sorted(keys)])


def highest_step_order(steps):
    """An ORDER of the STEPS with the greatest end for all starts."""
    if not steps:
        return ()
    # What all others add comes behind: so it counts for each STEP without the one that this adds itself.
    heights = [least - max(0, added) for added, least in steps]
    highest = heights.index(max(heights))
    others = [(added >= 0, place) for place, (added, _) in enumerate(steps) if place != highest]
    taking = [place for adds, place in others if not adds]
    return (*taking, highest, *[place for adds, place in others if adds])


def lowest_steps(steps):
    """The Way that leads each start to the least end over all ORDERs of the STEPS."""
    return steps_way(steps, lowest_step_order(steps))


def highest_steps(steps):
    """The Way that leads each start to the greatest end over all ORDERs of the STEPS."""
    return steps_way(steps, highest_step_order(steps))


def step_need(steps):
    """The least start from which no floor lifts in some ORDER of the STEPS; None for ()."""
    if not steps:
        return None
    # Where nothing is lifted the end is start + shift, and it is as long as this is not below the floor.
    way = lowest_steps(steps)
    return way.floor - way.shift


def highest_deeds(deeds):
    """The Way that leads each start to the greatest end over all ORDERs of the DEEDS."""
    return highest_way(orders_net([way_of(row) for row in deeds]))


def lowest_deeds(deeds):
    """The Way that leads each start to the least end over all ORDERs of the DEEDS."""
    return mirrored_way(highest_deeds([mirrored(row) for row in deeds]))


def highest_deed_order(deeds, start):
    """An ORDER of the DEEDS with the greatest end for this start."""
    return highest_path(orders_net([way_of(row) for row in deeds]), start)


def lowest_deed_order(deeds, start):
    """An ORDER of the DEEDS with the least end for this start."""
    return highest_deed_order([mirrored(row) for row in deeds], -start)
