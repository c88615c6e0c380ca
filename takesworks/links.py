"""Links, which lead both ways: a dict that has, for each node, the list of those that it is linked with."""


def linked(nodes, pairs):
    """The links of these nodes, of which each pair has two."""
    links = {node: [] for node in nodes}
    for one, other in pairs:
        links[one].append(other)
        links[other].append(one)
    return links


def steps_from(links, start):
    """How many steps from start each node is, of all that links lead to; start may be a node without any."""
    steps = {start: 0}
    last = [start]
    while len(last) > 0:
        reached = []
        for node in last:
            for other in links.get(node, []):
                if other not in steps:
                    steps[other] = steps[node] + 1
                    reached.append(other)
        last = reached
    return steps


def groups_in(links):
    """The rising tuple of the groups of nodes, each the rising tuple of all that links lead to from one of them."""
    seen = {}
    groups = []
    for start in links:
        if start not in seen:
            group = tuple(sorted(steps_from(links, start)))
            groups.append(group)
            for node in group:
                seen[node] = True
    return tuple(sorted(groups))


def shortest_row(links, one, other):
    """The shortest row of nodes from one to other, of the shortest the least; None where links lead there not."""
    steps = steps_from(links, other)
    if one not in steps:
        return None
    row = [one]
    while row[-1] != other:
        # The least next node begins the least rest, so nothing has to be taken back.
        row.append(min([node for node in links[row[-1]] if steps[node] < steps[row[-1]]]))
    return tuple(row)


def is_row(links, row):
    """Whether each two neighbours of a tuple of nodes are linked."""
    return all([later in links[earlier] for earlier, later in zip(row, row[1:])])


def is_closed(links, nodes):
    """Whether no link leads from one of a tuple of nodes to one outside."""
    inside = {node: True for node in nodes}
    return all([other in inside for node in nodes for other in links.get(node, [])])
