"""What the company reaches from its bases."""

from worthroutes.railmap import joined_nodes


def places_of_bases(rails):
    return [place for place in range(len(rails.nodes)) if rails.nodes[place].base == 1]


def reached_from(rails, place, joined):
    if rails.nodes[place].is_shut():
        return []
    return joined[place]


def reached_nodes(rails):
    joined = joined_nodes(rails)
    reached = places_of_bases(rails)
    done = 0
    while done < len(reached):
        near = reached_from(rails, reached[done], joined)
        for place in near:
            if place not in reached:
                reached.append(place)
        done = done + 1
    return sorted(reached)


def reach(rails):
    reached = reached_nodes(rails)
    return [len(reached)] + reached
