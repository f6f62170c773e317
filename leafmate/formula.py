"""Formulas: gatherings told by the folds of their sheets and the places of the leaves that are gone."""

from leafmate.errors import BadFormula
from leafmate.folds import count, good_folds
from leafmate.numbers import is_number

FIGURES = {"1": 1, "2": 2, "3": 3}


def check_folded(folds):
    """Refuse with BadFormula where no gathering has sheets folded so."""
    if not folds:
        raise BadFormula("a gathering has one sheet at least")
    if not all(is_number(often) and good_folds(often) for often in folds):
        raise BadFormula("folds are from 1 to 3")


def check_gone(folds, gone):
    """Refuse with BadFormula where these places do not rise or are not all in the gathering."""
    if not all(is_number(place) for place in gone):
        raise BadFormula("places are numbers")
    # Where the places rise from one ahead of the first to one behind the last, all of them are in the gathering.
    bounds = [-1, *gone, leaf_count(folds)]
    if not all(low < high for low, high in zip(bounds, bounds[1:])):
        raise BadFormula("places rise and are in the gathering")


def leaf_count(folds):
    """How many leaves a gathering has."""
    return sum(count(often) for often in folds)


def written(gatherings):
    """The formula of these pairs (list of folds, list of the places gone, counted from 0)."""
    return " ".join([written_word(folds, gone) for folds, gone in gatherings])


def written_word(folds, gone):
    """The word of one gathering."""
    check_folded(folds)
    check_gone(folds, gone)
    figures = "".join([str(often) for often in folds])
    if not gone:
        return figures
    return figures + "-" + ".".join([str(place + 1) for place in gone])


def read(text):
    """The list of the pairs that have this formula."""
    if text == "":
        return []
    return [read_word(word) for word in text.split(" ")]


def read_word(word):
    """The pair of one gathering."""
    figures, dash, numbers = word.partition("-")
    folds = read_figures(figures)
    gone = read_places(folds, numbers) if dash else []
    return folds, gone


def read_figures(figures):
    """The list of folds."""
    if not all(figure in FIGURES for figure in figures):
        raise BadFormula("a figure is 1, 2 or 3")
    folds = [FIGURES[figure] for figure in figures]
    check_folded(folds)
    return folds


def read_places(folds, numbers):
    """The list of the places gone, counted from 0."""
    # Texts are looked up, not reckoned: so only numbers written plainly are found, and none can be too long to read.
    places = {str(place + 1): place for place in range(leaf_count(folds))}
    texts = numbers.split(".")
    if not all(text in places for text in texts):
        raise BadFormula("a place is a number in the gathering, written plainly")
    gone = [places[text] for text in texts]
    check_gone(folds, gone)
    return gone
