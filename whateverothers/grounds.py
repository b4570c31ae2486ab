"""Grounds: what is looked up of a board again and again."""


class Ground:
    """A board, by which pieces stand in which fields, and near which."""

    def __init__(self, board):
        chart, pieces = board
        self.fields = [field for field, _ in pieces]
        self._places = {field: place for place, field in enumerate(self.fields)}
        self._near_places = [[] for _ in range(chart[0])]
        # Roads ascend, so to each field those from lesser ones come first, and all places are put down ascending.
        for low, high in chart[1]:
            if high in self._places:
                self._near_places[low].append(self._places[high])
            if low in self._places:
                self._near_places[high].append(self._places[low])

    def place_in(self, field):
        """The place of the piece in field, None if it is free."""
        return self._places.get(field)

    def places_near(self, field):
        """The places of all pieces in fields near field, ascending."""
        return list(self._near_places[field])

    def are_near(self, place, other):
        """Whether the fields of these pieces are near each other."""
        return place in self._near_places[self.fields[other]]
