"""Ways and routes: how they are found, and the calls that ask for them."""

from worthroutes.railmap import has_place, is_length, joined_nodes
from worthroutes.refusals import NO_SUCH_ROUTE, TOO_MANY_WAYS, WRONG_NUMBER

MOST_WAYS = 4000


class Way:
    """A list of nodes' numbers, with how many stops and bases and how much worth are on it."""

    def __init__(self, nodes, stops, worth, bases):
        self.nodes = nodes
        self.stops = stops
        self.worth = worth
        self.bases = bases


def shortest_way(rails, place):
    node = rails.nodes[place]
    return Way([place], node.stop, node.worth, node.base)


def longer_way(rails, way, place):
    # A joint's stop, worth and base are 0, so it adds to none of the sums.
    node = rails.nodes[place]
    return Way(way.nodes + [place], way.stops + node.stop, way.worth + node.worth, way.bases + node.base)


def may_go_on(rails, way):
    # A shut stop may be a way's end, so a way may leave the one that it begins with.
    return len(way.nodes) == 1 or not rails.nodes[way.nodes[-1]].is_shut()


def longer_ways(rails, way, joined, length):
    """The ways that are one node longer, in order."""
    if not may_go_on(rails, way):
        return []
    longer = []
    for place in joined[way.nodes[-1]]:
        if place not in way.nodes and way.stops + rails.nodes[place].stop <= length:
            longer.append(longer_way(rails, way, place))
    return longer


def find_ways(rails, length):
    """All ways of that many stops, in order; of more than MOST_WAYS only the first ones, one too many."""
    joined = joined_nodes(rails)
    # The way that is next in order is always the last one that waits.
    waiting = []
    for place in range(len(rails.nodes) - 1, -1, -1):
        if rails.nodes[place].stop == 1:
            waiting.append(shortest_way(rails, place))
    ways = []
    while len(waiting) > 0 and len(ways) <= MOST_WAYS:
        way = waiting.pop()
        ways.append(way)
        for longer in reversed(longer_ways(rails, way, joined, length)):
            waiting.append(longer)
    return ways


def is_route(rails, way):
    # A way begins with a stop and passes no shut one, so the rest is asked here.
    last = way.nodes[-1]
    return way.nodes[0] < last and rails.nodes[last].stop == 1 and way.bases > 0


def find_routes(rails, length):
    """The routes for a train of that length, in order; None if there are too many ways."""
    ways = find_ways(rails, length)
    if len(ways) > MOST_WAYS:
        return None
    return [way for way in ways if is_route(rails, way)]


def routes_for(routes, length):
    """Those of these routes that a train of that length may take, in the same order."""
    return [route for route in routes if route.stops <= length]


def richest(routes):
    """The one of most worth, of several the first; None if there's none."""
    found = None
    for route in routes:
        if found is None or route.worth > found.worth:
            found = route
    return found


def told_route(route):
    return [route.worth, route.stops, len(route.nodes)] + route.nodes


def count_routes(rails, length):
    if not is_length(length):
        return [WRONG_NUMBER]
    routes = find_routes(rails, length)
    if routes is None:
        return [TOO_MANY_WAYS]
    return [len(routes)]


def route_at(rails, length, place):
    if not is_length(length):
        return [WRONG_NUMBER]
    routes = find_routes(rails, length)
    if routes is None:
        return [TOO_MANY_WAYS]
    if not has_place(routes, place):
        return [NO_SUCH_ROUTE]
    return told_route(routes[place])


def best_route(rails, length):
    if not is_length(length):
        return [WRONG_NUMBER]
    routes = find_routes(rails, length)
    if routes is None:
        return [TOO_MANY_WAYS]
    best = richest(routes)
    if best is None:
        return [0, 0, 0]
    return told_route(best)
