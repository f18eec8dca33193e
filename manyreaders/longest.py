"""How many others are let in, at most, while a guest waits."""

from manyreaders.books import first_ways, moves, row_back
from manyreaders.rooms import waits_in


def longest(rule, n, deeds, guest):
    """("within", most, rooms, ranks), or ("starves", guest, ahead, again) where there is no most; refused as book."""
    ways = first_ways(rule, n, deeds)
    rooms = tuple(ways)
    steps = costed_steps(rule, rooms, deeds, guest)
    rings = ring_numbers([places_behind(row) for row in steps])
    starving_step = step_in_ring(steps, rings)
    if starving_step is not None:
        place, deed, after = starving_step
        return ("starves", guest, row_back(ways, rooms[place]), (deed,) + row_between(steps, after, place))
    ranks = ranks_of(steps, rings)
    return ("within", max(ranks), rooms, ranks)


def costed_steps(rule, rooms, deeds, guest):
    """For each room where the guest waits the (deed, cost, place behind) of each deed; none for the others."""
    places = {room: place for place, room in enumerate(rooms) if waits_in(room, guest)}
    return [costed_row(rule, room, deeds, guest, places) if room in places else [] for room in rooms]


def costed_row(rule, room, deeds, guest, places):
    # A room that isn't among the places is one where the guest waits no more: None.
    return [
        (deed, cost_of(events, guest), places.get(behind))
        for deed, behind, events in moves(rule, room, deeds)
    ]


def cost_of(events, guest):
    """How many others go in, ahead of the guest if it goes in itself."""
    entering = [who for word, who in events if word == "in"]
    return entering.index(guest) if guest in entering else len(entering)


def places_behind(row):
    return [after for deed, cost, after in row if after is not None]


def ring_numbers(nexts):
    """A number for each place: the same for those that lead to one another, and never a smaller one further on."""
    backs = turned_round(nexts)
    numbers = [None] * len(nexts)
    many = 0
    # The last one to finish leads to all that it shares a ring with, and nothing left over leads to that ring.
    for place in reversed(finished(nexts)):
        if numbers[place] is None:
            members = reached(backs, place, numbers)
            for member in members:
                numbers[member] = many
            many += 1
    return numbers


def turned_round(nexts):
    """For each place those that lead to it."""
    backs = [[] for row in nexts]
    for place, row in enumerate(nexts):
        for after in row:
            backs[after].append(place)
    return backs


def finished(nexts):
    """All places, in the order in which a walk into the depth is done with them."""
    seen = [False] * len(nexts)
    order = []
    for start in range(len(nexts)):
        # A list in place of calls within calls, which Python bounds.
        trail = [] if seen[start] else [(start, 0)]
        seen[start] = True
        while trail:
            place, at = trail.pop()
            if at == len(nexts[place]):
                order.append(place)
                continue
            trail.append((place, at + 1))
            after = nexts[place][at]
            if not seen[after]:
                seen[after] = True
                trail.append((after, 0))
    return order


def reached(backs, start, numbers):
    """The places without a number that lead to the start, itself among them."""
    found = {start: True}
    pending = [start]
    while pending:
        latest = pending.pop()
        for place in backs[latest]:
            if numbers[place] is None and place not in found:
                found[place] = True
                pending.append(place)
    return list(found)


def step_in_ring(steps, rings):
    """A step that lets others in and from which the guest, waiting on, may come back: (place, deed, place behind)."""
    for place, row in enumerate(steps):
        for deed, cost, after in row:
            if cost > 0 and after is not None and rings[after] == rings[place]:
                return (place, deed, after)
    return None


def row_between(steps, start, goal):
    """A shortest row of deeds from one place to another that it leads to."""
    rows = {start: ()}
    places = [start]
    at = 0
    while goal not in rows:
        place = places[at]
        for deed, cost, after in steps[place]:
            if after is not None and after not in rows:
                rows[after] = rows[place] + (deed,)
                places.append(after)
        at += 1
    return rows[goal]


def ranks_of(steps, rings):
    """For each place the greatest sum of costs from there on, where no ring has a cost."""
    best = [0] * len(steps)
    # From the last rings back, so that what lies further on is known; along a ring the ranks are the same.
    for ring, place in sorted([(ring, place) for place, ring in enumerate(rings)], reverse=True):
        for deed, cost, after in steps[place]:
            further = 0 if after is None else best[rings[after]]
            best[ring] = max(best[ring], cost + further)
    return tuple([best[ring] for ring in rings])
