"""Answers a list of calls on one new map."""

from worthroutes.bounds import judge_bound
from worthroutes.changes import add_line, add_node, add_train, clear_map, remove_line, scrap_train, set_stop
from worthroutes.paths import check_paths, judge_path
from worthroutes.railmap import RailMap, graph
from worthroutes.reaching import reach
from worthroutes.reading import read_calls
from worthroutes.routes import best_route, count_routes, route_at
from worthroutes.runs import best_run, greedy_worth, worth_with_more, worth_without

LAST_CHANGE = 6


def change(rails, number, told):
    """The answers to calls 0 to 6."""
    if number == 0:
        return add_node(rails, told[0], told[1], told[2], told[3])
    if number == 1:
        return add_line(rails, told[0], told[1])
    if number == 2:
        return set_stop(rails, told[0], told[1], told[2], told[3])
    if number == 3:
        return remove_line(rails, told[0])
    if number == 4:
        return add_train(rails, told[0])
    if number == 5:
        return scrap_train(rails, told[0])
    return clear_map(rails)


def judge(rails, number, rows):
    """The answers to calls 12 to 14, which have rows."""
    if number == 12:
        return judge_path(rails, rows[0])
    if number == 13:
        return check_paths(rails, rows[0])
    return judge_bound(rails, rows[0], rows[1])


def tell(rails, number, told):
    """The answers to the other calls, which leave the map as it is."""
    if number == 7:
        return graph(rails)
    if number == 8:
        return count_routes(rails, told[0])
    if number == 9:
        return route_at(rails, told[0], told[1])
    if number == 10:
        return best_route(rails, told[0])
    if number == 11:
        return best_run(rails)
    if number == 15:
        return reach(rails)
    if number == 16:
        return worth_without(rails, told[0])
    if number == 17:
        return worth_with_more(rails, told[0])
    return greedy_worth(rails)


def answer(rails, call):
    if call.number <= LAST_CHANGE:
        return change(rails, call.number, call.numbers)
    if len(call.rows) > 0:
        return judge(rails, call.number, call.rows)
    return tell(rails, call.number, call.numbers)


def answers(calls):
    """For each call, in order: how many numbers are answered, then these."""
    rails = RailMap()
    answered = []
    for call in read_calls(calls):
        numbers = answer(rails, call)
        answered.append(len(numbers))
        answered.extend(numbers)
    return answered
