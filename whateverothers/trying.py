"""Tuples of orders that are tried one after the other, as long as they are not too many."""
from whateverothers.bounds import MAX_TRIED
from whateverothers.clashes import is_fit
from whateverothers.errors import TooMany


def check_tried(choices):
    """Raises TooMany if there are too many tuples with an item of each of choices."""
    many = 1
    for choice in choices:
        many = many * len(choice)
    if many > MAX_TRIED:
        raise TooMany(MAX_TRIED)


def all_tuples(choices):
    """All tuples with an item of each of choices, those with an earlier first item ahead, and so on."""
    tuples = [()]
    for choice in choices:
        tuples = [(*ahead, item) for ahead in tuples for item in choice]
    return tuples


def own_tuples(ground, choices):
    """All sound own orders among all_tuples in which each back fits, in their order.

    The choices of foreign pieces are None alone.
    """
    own_choices = [[order for order in choice if not _backs_foreign(ground, choices, order)] for choice in choices]
    tuples = [()]
    for place, choice in enumerate(own_choices):
        tuples = [(*ahead, order) for ahead in tuples for order in choice
                  if order is None or _goes_with_all(ground, ahead, place, order)]
    return tuples


def _backs_foreign(ground, choices, order):
    return order is not None and order[0] == "back" and choices[ground.place_in(order[1])] == (None,)


def _goes_with_all(ground, ahead, place, order):
    """Whether this order of the piece with this place goes together with those of the own pieces ahead."""
    for other, other_order in enumerate(ahead):
        if other_order is not None and not _go_together(ground.fields[place], order, ground.fields[other], other_order):
            return False
    return True


def _go_together(field, order, other_field, other_order):
    """Whether own pieces with these orders stand in no way of each other, and back each other only as it fits."""
    if order[0] == "go" and order == other_order:
        return False
    return _suits(order, field, other_field, other_order) and _suits(other_order, other_field, field, order)


def _suits(order, field, other_field, other_order):
    """Whether order, of the piece in field, may be given beside other_order of the own one in other_field."""
    if order == ("go", other_field):
        return other_order[0] == "go" and other_order[1] != field
    if order[0] == "back" and order[1] == other_field:
        return is_fit(order, other_order)
    return True
