"""Judges bounds: values of trains and prices of lines that prove that no run is worth more."""

from worthroutes.along import by_ends, sum_along
from worthroutes.railmap import longest_train
from worthroutes.refusals import TOO_MANY_WAYS, WRONG_ROW
from worthroutes.routes import find_routes, routes_for

MOST_VALUE = 1000000000

NOT_ACCEPTED = 0
ACCEPTED = 1


def are_values(numbers):
    return all([0 <= number <= MOST_VALUE for number in numbers])


def fits_bound(rails, train_values, line_prices):
    if len(train_values) != len(rails.trains) or len(line_prices) != len(rails.lines):
        return False
    return are_values(train_values) and are_values(line_prices)


def first_above(routes, value, prices):
    """The place of the first route that's worth more than the value and its lines' prices; None if there's none."""
    for place in range(len(routes)):
        route = routes[place]
        if route.worth > value + sum_along(prices, route.nodes):
            return place
    return None


def judge_bound(rails, train_values, line_prices):
    if not fits_bound(rails, train_values, line_prices):
        return [WRONG_ROW]
    routes = find_routes(rails, longest_train(rails))
    if routes is None:
        return [TOO_MANY_WAYS]
    prices = by_ends(rails, line_prices)
    for train in range(len(rails.trains)):
        above = first_above(routes_for(routes, rails.trains[train]), train_values[train], prices)
        if above is not None:
            return [NOT_ACCEPTED, train, above]
    return [ACCEPTED, sum(train_values) + sum(line_prices)]
