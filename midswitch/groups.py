"""Groups of standings: those between which the settings can be switched to and fro, point [11].

A run that comes to one standing of a group can be switched on to each of it. So where it only matters what some right
run can do, one need not ask for the standing, but for its group alone.
"""


def groups_of(grid, switches):
    """The groups, each with a number: a dict and two lists.

    The dict has the number of the group of each standing. The first list has, for each group, a list of the other ones
    to which a switch leads; the second one, for each group and each setting, a list of the values in this group.
    """
    # Two standings are in one group exactly if the same ones are reached from both.
    reached = all_reached(grid, switches)
    different = list({bits: True for bits in reached})
    numbers = {standing: different.index(bits) for standing, bits in zip(grid, reached)}
    members = [[standing for standing, bits in zip(grid, reached) if bits == same] for same in different]
    readings = [[sorted(set(values)) for values in zip(*group)] for group in members]
    return numbers, later_groups(len(members), numbers, switches), readings


def all_reached(grid, switches):
    """For each standing the set of itself and all that are reached from it: an integer with a bit for each of them."""
    bits = {standing: 1 << number for number, standing in enumerate(grid)}
    reached = [bits[standing] + sum([bits[second] for first, second in switches if first == standing])
               for standing in grid]
    for at in range(len(grid)):
        # The ways that lead through the standings before this one are known by now; this adds those through it.
        through = reached[at]
        reached = [others | through if others >> at & 1 else others for others in reached]
    return reached


def later_groups(many, numbers, switches):
    """For each of this many groups, a list of the other ones to which a switch leads."""
    ways = sorted(set([(numbers[first], numbers[second]) for first, second in switches]))
    return [[second for first, second in ways if first == number and second != number] for number in range(many)]
