"""What lists of acts lead to: the first list to something, and all spots that can be reached."""

from locklevels.board import CANNOT


# The acts that led to this spot, walked back through where each spot was come to from.
def acts_to(spot, origins):
    acts = []
    origin = origins[spot]
    while origin is not None:
        acts.append(origin[1])
        origin = origins[origin[0]]
    acts.reverse()
    return acts


# Goes from the spot to all spots within reach and stops at the first goal. The origins hold for each
# spot that was come to the spot before it and the act between. Spots are come to by fewer acts first and,
# among as many, by lesser lists first: each layer is walked in that order, and acts from the least on.
# So the first goal that is met ends the first list.
def explore(board, spot, is_goal):
    origins = {spot: None}
    if is_goal(spot):
        return spot, origins
    layer = [spot]
    while layer:
        further = []
        for before in layer:
            for act, after in enumerate(board.steps(before)):
                if after == CANNOT or after in origins:
                    continue
                origins[after] = (before, act)
                if is_goal(after):
                    return after, origins
                further.append(after)
        layer = further
    return CANNOT, origins


# The first list of acts from the spot to a goal, or None if no list leads to one.
def first_list(board, spot, is_goal):
    found = explore(board, spot, is_goal)
    if found[0] == CANNOT:
        return None
    return acts_to(found[0], found[1])


def reached_spots(board, spot):
    return list(explore(board, spot, lambda other: False)[1])
