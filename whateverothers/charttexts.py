"""The texts of charts."""
from whateverothers.charts import chart_error
from whateverothers.errors import BadText
from whateverothers.kinds import integer_told


def chart_text(chart):
    """The text of chart."""
    many, roads, centres = chart
    road_words = "".join([f" {low}-{high}" for low, high in roads])
    centre_words = "".join([f" {centre}" for centre in centres])
    return f"{many}:{road_words};{centre_words}"


def read_chart(value):
    """The chart of which value is the text; raises BadText if it is the text of none."""
    if not isinstance(value, str):
        raise BadText()
    chart = _chart_told(value)
    # What is told may be parted otherwise than in a text; only a text is what its chart is written as.
    if chart_error(chart) is not None or chart_text(chart) != value:
        raise BadText()
    return chart


def _chart_told(text):
    """What stands in text in the places of many, roads and centres, with None for what is no integer."""
    head, _, behind = text.partition(":")
    road_part, _, centre_part = behind.partition(";")
    roads = [_road_told(word) for word in road_part.split(" ")[1:]]
    centres = [integer_told(word) for word in centre_part.split(" ")[1:]]
    return (integer_told(head), tuple(roads), tuple(centres))


def _road_told(word):
    low, _, high = word.partition("-")
    return (integer_told(low), integer_told(high))
