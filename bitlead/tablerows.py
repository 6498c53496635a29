"""Rows of swaps that lead as tables do.

A place is a number with figures by powers of two. Mirroring turns every figure of it over, weaving leads its figures
round, and exchanging lines and columns exchanges the upper figures for the lower ones: each swap does this for one
figure, or for two.
"""

from bitlead.errors import Unhalved
from bitlead.halving import check_halved
from bitlead.words import mask_of

HALVED_SIDES = (1, 2, 4, 8)


def mirror_row(width):
    check_halved(width)
    return [turn_over(width, figure) for figure in figures_below(width)]


def weave_row(width):
    check_halved(width)
    if width == 1:
        raise Unhalved("a word of one place has no halves to be woven")
    return [exchange(width, figure, 2 * figure) for figure in figures_below(width // 2)]


def square_row(n):
    check_side(n)
    return [exchange(n * n, figure, n * figure) for figure in figures_below(n)]


def square_turn_row(n):
    # Behind the exchange of lines and columns, mirroring the columns makes it a quarter round.
    return square_row(n) + [turn_over(n * n, figure) for figure in figures_below(n)]


def check_side(n):
    if n not in HALVED_SIDES:
        raise Unhalved("the side of the square is none by halves")


def figures_below(most):
    # What each figure counts, the highest first.
    figures = []
    while most > 1:
        most = most // 2
        figures.append(most)
    return figures


def turn_over(width, figure):
    places = [place for place in range(width) if (place & figure) == 0]
    return ("swap", mask_of(places), figure)


def exchange(width, lower, upper):
    # Only places with unlike figures change; those with the lower one go up to those with the upper one.
    places = [place for place in range(width) if (place & lower) != 0 and (place & upper) == 0]
    return ("swap", mask_of(places), upper - lower)
