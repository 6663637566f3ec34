"""What lies along a path, line by line."""


def by_ends(rails, numbers):
    """The numbers, one for each line in order, by the line's two nodes told in either order."""
    found = {}
    for place in range(len(rails.lines)):
        line = rails.lines[place]
        found[(line[0], line[1])] = numbers[place]
        found[(line[1], line[0])] = numbers[place]
    return found


def sum_along(numbers, nodes):
    return sum([numbers[(nodes[k - 1], nodes[k])] for k in range(1, len(nodes))])


def line_bits(rails):
    """For each line, by its ends, a bit of its own."""
    bits = []
    bit = 1
    while len(bits) < len(rails.lines):
        bits.append(bit)
        bit = bit + bit
    return by_ends(rails, bits)


def lines_along(bits, nodes):
    # A path takes no line twice, so the sum of its bits holds each of its lines.
    return sum_along(bits, nodes)
