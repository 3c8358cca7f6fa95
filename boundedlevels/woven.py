"""Streams that are woven: each keeps its order, but nobody knows how they came between one another.

A *stage* tells how far a WEAVING is: a tuple with the number of the EVENTs of each
stream that are done. All WEAVINGs that come to a stage have the same way on.
"""

from boundedlevels.nets import first_state, highest_path, highest_way, least_path, paths_to
from boundedlevels.plain import end_of, is_number, level_behind
from boundedlevels.rows import in_tuples, mirrored, mirrored_way
from boundedlevels.ways import event_way, higher_start


def is_weaving(streams, thing):
    """Whether thing is a WEAVING of the STREAMS."""
    if not isinstance(thing, tuple) or not all([is_number(number) for number in thing]):
        return False
    return sorted(thing) == [number for number, row in enumerate(streams) for _ in row]


def woven_row(streams, weaving):
    """The ROW that a WEAVING makes."""
    done = [0 for _ in streams]
    row = []
    for number in weaving:
        row.append(streams[number][done[number]])
        done[number] += 1
    return in_tuples(row)


def stages_of(streams):
    """All stages, ascending: so each stands ahead of all that can be behind it."""
    stages = [()]
    for row in streams:
        stages = [(*stage, done) for stage in stages for done in range(len(row) + 1)]
    return stages


def last_stage(streams):
    """The stage at which all is done."""
    return tuple([len(row) for row in streams])


def further(stage, number, by):
    """The stage with so many more EVENTs of one stream."""
    return (*stage[:number], stage[number] + by, *stage[number + 1:])


def steps_from(streams, stage):
    """What can be next: triples of the number of a stream, its EVENT, and the stage behind it."""
    return [(number, row[stage[number]], further(stage, number, 1))
            for number, row in enumerate(streams) if stage[number] < len(row)]


def steps_to(streams, stage):
    """What can be the last so far: triples of the number of a stream, its EVENT, and the stage ahead of it."""
    return [(number, row[stage[number] - 1], further(stage, number, -1))
            for number, row in enumerate(streams) if stage[number] > 0]


def net_of(streams):
    """The net of all WEAVINGs; its states are the stages."""
    net = {}
    for stage in stages_of(streams):
        net[stage] = [(number, event_way(event), behind) for number, event, behind in steps_from(streams, stage)]
    return net


def mirrored_streams(streams):
    """The STREAMS in the mirror."""
    return [mirrored(row) for row in streams]


def highest_woven(streams):
    """The Way that leads each start to the greatest end of all WEAVINGs."""
    return highest_way(net_of(streams))


def lowest_woven(streams):
    """The Way that leads each start to the least end of all WEAVINGs."""
    return mirrored_way(highest_woven(mirrored_streams(streams)))


def highest_weaving(streams, start):
    """A WEAVING with the greatest end for this start."""
    return highest_path(net_of(streams), start)


def lowest_weaving(streams, start):
    """A WEAVING with the least end for this start."""
    return highest_weaving(mirrored_streams(streams), -start)


def woven_parting(streams):
    """A start and two WEAVINGs that end there at unlike levels; None if all are alike."""
    start = higher_start(highest_woven(streams), lowest_woven(streams))
    if start is None:
        return None
    return (start, highest_weaving(streams, start), lowest_weaving(streams, start))


def is_woven_parting(streams, thing):
    """Whether thing is a start and two WEAVINGs that end there at unlike levels."""
    if not isinstance(thing, tuple) or len(thing) != 3:
        return False
    start, one, other = thing
    if not is_number(start) or not is_weaving(streams, one) or not is_weaving(streams, other):
        return False
    return end_of(woven_row(streams, one), start) != end_of(woven_row(streams, other), start)


def counts_by_stage(streams, start):
    """For each stage a dict from the levels that it can have to the number of ways to come there."""
    counts = {}
    for stage in stages_of(streams):
        # To the first stage, to which no step leads, there is one way: to do nothing.
        here = {} if sum(stage) > 0 else {start: 1}
        for _, event, ahead in steps_to(streams, stage):
            for level, many in counts[ahead].items():
                behind = level_behind(event, level)
                here[behind] = here.get(behind, 0) + many
        counts[stage] = here
    return counts


def ends_woven(streams, start):
    """The pairs (end, many), ascending: each end, with the number of the WEAVINGs that end there."""
    return sorted(list(counts_by_stage(streams, start)[last_stage(streams)].items()))


def step_before(streams, counts, stage, level):
    """A step that comes to this level at this stage: the number of its stream, the stage and level ahead of it."""
    steps = [(number, ahead, before) for number, event, ahead in steps_to(streams, stage)
             for before in counts[ahead] if level_behind(event, before) == level]
    return steps[0]


def weaving_to(streams, start, end):
    """A WEAVING that ends at this number; None if there is none."""
    counts = counts_by_stage(streams, start)
    stage, level, numbers = last_stage(streams), end, []
    if level not in counts[stage]:
        return None
    while sum(stage) > 0:
        number, stage, level = step_before(streams, counts, stage, level)
        numbers.append(number)
    return tuple(numbers[::-1])


def quiet_level(streams, stage, start):
    """The level at a stage if nothing was lifted or cut: it hangs on the adds alone."""
    told = [event for row, done in zip(streams, stage) for event in row[:done]]
    return start + sum([number for word, number in told if word == "add"])


def quiet_net(streams, start):
    """The net of the WEAVINGs, without the steps that lift or cut."""
    net = {}
    for stage in stages_of(streams):
        level = quiet_level(streams, stage, start)
        net[stage] = [(number, event_way(event), behind) for number, event, behind in steps_from(streams, stage)
                      if event[0] == "add" or level_behind(event, level) == level]
    return net


def many_quiet(streams, start):
    """How many WEAVINGs are quiet for this start."""
    net = quiet_net(streams, start)
    return paths_to(net, last_stage(streams))[first_state(net)]


def quiet_weaving(streams, start):
    """The least WEAVING that is quiet for this start; None if there is none."""
    return least_path(quiet_net(streams, start), last_stage(streams))
