"""What lists of acts lead to: the first list to something, the spots within reach, the hopeful ones of
them, and how many lists are of the fewest acts.
"""

from locklevels.board import CANNOT

MODULUS = 1000000007


# The acts that led to this spot, walked back through where each spot was come to from.
def acts_to(spot, origins):
    acts = []
    origin = origins[spot]
    while origin is not None:
        acts.append(origin[1])
        origin = origins[origin[0]]
    acts.reverse()
    return acts


# Goes from the spot to all spots within reach and stops at the first goal. The origins hold for each
# spot that was come to the spot before it and the act between. Spots are come to by fewer acts first and,
# among as many, by lesser lists first: each layer is walked in that order, and acts from the least on.
# So the first goal that is met ends the first list.
def explore(board, spot, is_goal):
    origins = {spot: None}
    if is_goal(spot):
        return spot, origins
    layer = [spot]
    while layer:
        further = []
        for before in layer:
            for act, after in enumerate(board.steps(before)):
                if after == CANNOT or after in origins:
                    continue
                origins[after] = (before, act)
                if is_goal(after):
                    return after, origins
                further.append(after)
        layer = further
    return CANNOT, origins


# The first list of acts from the spot to a goal, or None if no list leads to one.
def first_list(board, spot, is_goal):
    found = explore(board, spot, is_goal)
    if found[0] == CANNOT:
        return None
    return acts_to(found[0], found[1])


def list_to_stairs(board, spot):
    return first_list(board, spot, lambda other: board.is_over(other))


def reached_spots(board, spot):
    return list(explore(board, spot, lambda other: False)[1])


# For each spot that an act leads to from one of these, the spots that it leads from.
def sources_of(board, spots):
    sources = {}
    for before in spots:
        for after in board.steps(before):
            if after != CANNOT:
                sources.setdefault(after, []).append(before)
    return sources


# The hopeful ones of the spots within reach of this one, as a dict of True. From stairs one goes against
# the acts: where one comes to, stairs can be reached from.
def hopeful_spots(board, spot):
    spots = reached_spots(board, spot)
    sources = sources_of(board, spots)
    layer = [other for other in spots if board.is_over(other)]
    hopeful = {}
    for stairs in layer:
        hopeful[stairs] = True
    while layer:
        further = []
        for after in layer:
            for before in sources.get(after, ()):
                if before not in hopeful:
                    hopeful[before] = True
                    further.append(before)
        layer = further
    return hopeful


# By each spot that one more act leads to from the layer, and that wasn't come to before: how many lists
# lead there. Different lists from one spot differ in their acts, so each step adds its own.
def next_counts(board, layer, known):
    further = {}
    for before, count in layer.items():
        for after in board.steps(before):
            if after != CANNOT and after not in known:
                further[after] = (further.get(after, 0) + count) % MODULUS
    return further


# How many lists of the fewest acts lead from the spot to stairs, modulo MODULUS.
def count_ways(board, spot):
    layer = {spot: 1}
    known = {spot: True}
    while layer:
        at_stairs = [count for other, count in layer.items() if board.is_over(other)]
        if at_stairs:
            return sum(at_stairs) % MODULUS
        layer = next_counts(board, layer, known)
        known.update(layer)
    return 0
