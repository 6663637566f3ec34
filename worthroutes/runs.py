"""Runs of all trains together: the best one, and the greedy one."""

from worthroutes.along import line_bits, lines_along
from worthroutes.railmap import copied_map, has_place, is_length, longest_train
from worthroutes.refusals import NO_SUCH_LINE, TOO_MANY_RUNS, TOO_MANY_WAYS, WRONG_NUMBER
from worthroutes.routes import find_routes, richest, routes_for

MOST_RUNS = 200000


class Offer:
    """A route that trains may take, or none; its lines are the bits of one number."""

    def __init__(self, nodes, stops, worth, lines):
        self.nodes = nodes
        self.stops = stops
        self.worth = worth
        self.lines = lines


class Search:
    """Tries the runs in order, and keeps the first one of most worth."""

    def __init__(self, offers):
        self.offers = offers
        self.hopes = most_from_each(offers)
        self.best = []
        # Less than any run's worth, so that a run of worth 0 is kept too.
        self.worth = -1

    def try_next(self, taken, used, worth):
        """Goes on with each offer for the train behind those that have taken theirs."""
        train = len(taken)
        if train == len(self.offers):
            self.best = taken
            self.worth = worth
            return
        hope = worth + self.hopes[train + 1]
        for offer in self.offers[train]:
            # A run that can get no more than the best one so far comes behind it.
            if hope + offer.worth > self.worth and offer.lines & used == 0:
                self.try_next(taken + [offer], used | offer.lines, worth + offer.worth)


def most_from_each(offers):
    """For each train the most that it and those behind it can get; 0 behind the last one."""
    hopes = [0]
    for some in reversed(offers):
        hopes.append(hopes[-1] + richest(some).worth)
    hopes.reverse()
    return hopes


def all_offers(rails, routes):
    bits = line_bits(rails)
    return [Offer(route.nodes, route.stops, route.worth, lines_along(bits, route.nodes)) for route in routes]


def offers_for_trains(rails, routes):
    """For each train its routes in order, and none behind all of them."""
    every = all_offers(rails, routes)
    return [routes_for(every, length) + [Offer([], 0, 0, 0)] for length in rails.trains]


def are_too_many(offers):
    product = 1
    for some in offers:
        product = product * len(some)
    return product > MOST_RUNS


def told_run(search):
    told = [search.worth]
    for offer in search.best:
        told.append(len(offer.nodes))
        told.extend(offer.nodes)
    return told


def best_run(rails):
    routes = find_routes(rails, longest_train(rails))
    if routes is None:
        return [TOO_MANY_WAYS]
    offers = offers_for_trains(rails, routes)
    if are_too_many(offers):
        return [TOO_MANY_RUNS]
    search = Search(offers)
    search.try_next([], 0, 0)
    return told_run(search)


def best_worth(rails):
    # The first number of a run's answer is its worth, or the refusal.
    return best_run(rails)[:1]


def worth_without(rails, place):
    if not has_place(rails.lines, place):
        return [NO_SUCH_LINE]
    other = copied_map(rails)
    other.lines.pop(place)
    return best_worth(other)


def worth_with_more(rails, length):
    if not is_length(length):
        return [WRONG_NUMBER]
    other = copied_map(rails)
    other.trains.append(length)
    return best_worth(other)


def greedy_worth(rails):
    routes = find_routes(rails, longest_train(rails))
    if routes is None:
        return [TOO_MANY_WAYS]
    left = all_offers(rails, routes)
    worth = 0
    for length in sorted(rails.trains, reverse=True):
        taken = richest(routes_for(left, length))
        if taken is not None:
            worth = worth + taken.worth
            left = [offer for offer in left if offer.lines & taken.lines == 0]
    return [worth]
