"""Ways along edges between nodes: what is reached from where, and how long a way can be.

Edges are a dict from each node to a dict of its targets. A node that is no key
has no targets.
"""


def reached(edges, starts):
    """Return a dict from each node that is reached from starts to the one before it, None for a start."""
    before = {node: None for node in starts}
    waiting = list(before)
    while len(waiting) > 0:
        found = []
        for node in waiting:
            for target in edges.get(node, {}):
                if target not in before:
                    before[target] = node
                    found.append(target)
        waiting = found
    return before


def way_to(before, goal):
    """Return the list of the nodes on a way to a goal, which is reached; before is as reached returns it."""
    way = [goal]
    while before[way[-1]] is not None:
        way.append(before[way[-1]])
    return way[::-1]


def sources(edges, nodes):
    """Return a dict from each of the nodes, which have no targets but themselves, to the nodes in front of it."""
    table = {node: [] for node in nodes}
    for node in nodes:
        for target in edges[node]:
            table[target].append(node)
    return table


def most_nodes(edges, starts):
    """Return the number of nodes on a longest way from starts, which are keys; None if a ring is reached."""
    nodes = list(reached(edges, starts))
    above = sources(edges, nodes)
    missing = {node: len(edges[node]) for node in nodes}
    lengths = {node: 1 for node in nodes}
    done = [node for node in nodes if missing[node] == 0]
    place = 0
    while place < len(done):
        below = done[place]
        place += 1
        for node in above[below]:
            lengths[node] = max(lengths[node], 1 + lengths[below])
            missing[node] -= 1
            if missing[node] == 0:
                done.append(node)
    # Nodes of a ring wait for one another.
    return max([lengths[node] for node in nodes]) if len(done) == len(nodes) else None


def long_way(edges, starts, many):
    """Return the list of the nodes on a way of so many edges from one of the starts, or None if there is none."""
    levels = [{node: None for node in reached(edges, starts)}]
    for count in range(many):
        onward = {}
        for node in levels[0]:
            targets = [target for target in edges[node] if target in levels[count]]
            if len(targets) > 0:
                onward[node] = targets[0]
        levels.append(onward)
    for start in starts:
        if start in levels[many]:
            way = [start]
            for level in levels[:0:-1]:
                way.append(level[way[-1]])
            return way
    return None
