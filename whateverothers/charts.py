"""Charts: how many fields there are, which of them are near each other, and which are centres."""
from whateverothers.bounds import MAX_FIELDS
from whateverothers.kinds import is_below, is_integer, is_tuple_of


def chart_error(value):
    """None if value is a chart, otherwise what is wrong with it first."""
    if not is_tuple_of(value, 3):
        return "form"
    many, roads, centres = value
    if not isinstance(roads, tuple) or not isinstance(centres, tuple):
        return "form"
    if not is_integer(many) or not 1 <= many <= MAX_FIELDS:
        return "many"
    road_place = _first_wrong(roads, [_is_road(many, road) for road in roads])
    if road_place is not None:
        return ("road", road_place)
    centre_place = _first_wrong(centres, [is_below(centre, many) for centre in centres])
    if centre_place is not None:
        return ("centre", centre_place)
    return None


def near(chart, field):
    """The ascending tuple of all fields near field."""
    roads = chart[1]
    # Roads are ascending, so both lists are, and the first one has the lesser fields.
    lesser = [low for low, high in roads if high == field]
    greater = [high for low, high in roads if low == field]
    return (*lesser, *greater)


def _is_road(many, value):
    if not is_tuple_of(value, 2):
        return False
    low, high = value
    return is_below(low, many) and is_below(high, many) and low < high


def _first_wrong(items, right):
    """The place of the first item that is not right, or not greater than the one ahead; None if there is none."""
    for place, item in enumerate(items):
        # The one ahead was right, so both can be compared.
        if not right[place] or (place > 0 and item <= items[place - 1]):
            return place
    return None
