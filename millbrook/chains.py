"""Names that are connected by links, and the steps of reasons [55], [57].

A link or a split is a step: a tuple that ends with the two names that it is about.
"""


def leaders(names, links):
    """For each name one name of its group, the same one for all names of the group."""
    leader = {name: name for name in names}
    for link in links:
        one, other = leader[link[-2]], leader[link[-1]]
        if one != other:
            leader = {name: one if leader[name] == other else leader[name] for name in names}
    return leader


def groups_of(names, links):
    """The groups of the names as ascending lists, in ascending order."""
    leader = leaders(names, links)
    return sorted([sorted([name for name in names if leader[name] == one]) for one in names if leader[one] == one])


def between(leader, step, one, other):
    """Tells whether the step leads from the group of the one name to the group of the other one."""
    return leader[step[-2]] == leader[one] and leader[step[-1]] == leader[other]


def both_ways(steps):
    """The steps, each also from its second name to its first one."""
    return [way for step in steps for way in (step, step[:-2] + (step[-1], step[-2]))]


def way_along(links, start, goal):
    """The fewest links that lead from the start to the goal, which must be in one group."""
    steps = both_ways(links)
    found = {start: []}
    while goal not in found:
        reached = [step for step in steps if step[-2] in found]
        for step in reached:
            if step[-1] not in found:
                found[step[-1]] = found[step[-2]] + [step]
    return found[goal]
