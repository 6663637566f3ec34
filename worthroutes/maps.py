"""Answers a list of calls on one new map."""

from worthroutes.changes import add_line, add_node, add_train, clear_map, remove_line, scrap_train, set_stop
from worthroutes.railmap import RailMap, graph
from worthroutes.reading import read_calls
from worthroutes.routes import count_routes, route_at

LAST_CHANGE = 6


def change(rails, number, told):
    """The answers to calls 0 to 6."""
    if number == 0:
        return add_node(rails, told[0], told[1], told[2], told[3])
    if number == 1:
        return add_line(rails, told[0], told[1])
    if number == 2:
        return set_stop(rails, told[0], told[1], told[2], told[3])
    if number == 3:
        return remove_line(rails, told[0])
    if number == 4:
        return add_train(rails, told[0])
    if number == 5:
        return scrap_train(rails, told[0])
    return clear_map(rails)


def tell(rails, number, told):
    """The answers to the calls behind these, which leave the map as it is."""
    if number == 7:
        return graph(rails)
    if number == 8:
        return count_routes(rails, told[0])
    if number == 9:
        return route_at(rails, told[0], told[1])
    raise NotImplementedError(f"call {number}")


def answer(rails, call):
    if call.number <= LAST_CHANGE:
        return change(rails, call.number, call.numbers)
    return tell(rails, call.number, call.numbers)


def answers(calls):
    """For each call, in order: how many numbers are answered, then these."""
    rails = RailMap()
    answered = []
    for call in read_calls(calls):
        numbers = answer(rails, call)
        answered.append(len(numbers))
        answered.extend(numbers)
    return answered
