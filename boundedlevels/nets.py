"""Nets: what can be done next in several ways, and what can come of it.

A net is a dict from states to the list of the steps that can be next there. A step
is a triple: its name, the Way of what it does, the state behind it. The first
state stands first in the dict, and each state ahead of all that are behind it.
"""

from boundedlevels.ways import Way, greatest_of


def first_state(net):
    """The state in which nothing is done yet."""
    return list(net)[0]


def highest_ways(net):
    """For each state the Way that leads each level there to the greatest end that can come of it."""
    ways = {}
    for state in list(net)[::-1]:
        # A greater level never has a lesser end: so only the greatest end behind each step counts.
        onward = [way >> ways[behind] for _, way, behind in net[state]]
        ways[state] = greatest_of(onward) if onward else Way(0)
    return ways


def highest_way(net):
    """The Way that leads each start to the greatest end of all paths through the net."""
    return highest_ways(net)[first_state(net)]


def highest_path(net, start):
    """The names of the steps of a path with the greatest end for this start."""
    ways = highest_ways(net)
    state, level, names = first_state(net), start, []
    while net[state]:
        ends = [ways[behind](way(level)) for _, way, behind in net[state]]
        name, way, state = net[state][ends.index(max(ends))]
        level = way(level)
        names.append(name)
    return tuple(names)


def ends_of(net, start):
    """A dict from each level in the last state to the number of the paths that come to it from this start."""
    counts = {state: {} for state in net}
    counts[first_state(net)][start] = 1
    for state, steps in net.items():
        here = list(counts[state].items())
        for _, way, behind in steps:
            for level, many in here:
                end = way(level)
                counts[behind][end] = counts[behind].get(end, 0) + many
    return counts[list(net)[-1]]


def paths_to(net, last):
    """For each state the number of the paths from there to the last one."""
    many = {}
    for state in list(net)[::-1]:
        many[state] = 1 if state == last else sum([many[behind] for _, _, behind in net[state]])
    return many


def least_path(net, last):
    """The least tuple of names of a path to the last state; None if there is none."""
    many = paths_to(net, last)
    state, names = first_state(net), []
    if many[state] == 0:
        return None
    while state != last:
        name, state = min([(name, behind) for name, _, behind in net[state] if many[behind] > 0])
        names.append(name)
    return tuple(names)
