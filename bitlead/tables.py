"""Tables told as leadings: words mirrored and woven, squares of bits turned and mirrored."""


def mirrored(width):
    return tuple([width - 1 - place for place in range(width)])


def woven(width):
    half = width // 2
    return tuple([place // 2 + half * (place % 2) for place in range(width)])


def unwoven(width):
    return tuple(range(0, width, 2)) + tuple(range(1, width, 2))


def square(n):
    return tuple([n * column_of(n, place) + line_of(n, place) for place in range(n * n)])


def square_turned(n):
    return tuple([n * (n - 1 - column_of(n, place)) + line_of(n, place) for place in range(n * n)])


def square_mirrored(n):
    return tuple([n * line_of(n, place) + n - 1 - column_of(n, place) for place in range(n * n)])


def line_of(n, place):
    return place // n


def column_of(n, place):
    return place % n
