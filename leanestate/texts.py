"""Ratios as texts: how one is written, and how just what is written so is read."""

from leanestate.errors import NoText
from leanestate.ratios import ratio

FIGURES = "0123456789"
MOST_FIGURES = 60


def shown(one):
    top = str(one[0])
    if one[1] == 1:
        return top
    return top + "/" + str(one[1])


# Python's int also takes blanks, underscores and figures of other scripts: so each sign is looked at first.
def figures_read(figures):
    if figures == "":
        raise NoText("figures are missing")
    if len(figures) > MOST_FIGURES:
        raise NoText("there are more than sixty figures on top or below")
    for sign in figures:
        if sign not in FIGURES:
            raise NoText("there is a sign that is no figure")
    return int(figures)


def top_read(text):
    if text.startswith("-"):
        return -figures_read(text[1:])
    return figures_read(text)


def read(text):
    parts = text.partition("/")
    top = top_read(parts[0])
    bottom = 1
    if parts[1] == "/":
        bottom = figures_read(parts[2])
    if bottom == 0:
        raise NoText("the bottom is 0")
    made = ratio(top, bottom)
    # Each ratio is written in one way alone, so every other text for it differs from that one.
    if shown(made) != text:
        raise NoText("no ratio is written so")
    return made
