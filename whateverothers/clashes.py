"""Orders given at once: who goes where, which backs fit, and the forces by those of them that stand."""


def is_fit(back, backed):
    """Whether an order to back fits the order of the piece that it backs."""
    _, field, aim = back
    if aim == field:
        return backed[0] != "go"
    return backed == ("go", aim)


class Clash:
    """Orders of a board. Where stands is handed in, it has for each piece that backs whether its back stands."""

    def __init__(self, board, orders):
        self.orders = orders
        self.fields = [field for field, _ in board[1]]
        self.players = [player for _, player in board[1]]
        self._places = {field: place for place, field in enumerate(self.fields)}
        self._goers = {}
        self._backers = [[] for _ in orders]
        for place, order in enumerate(orders):
            if order[0] == "go":
                self._goers.setdefault(order[1], []).append(place)
            if order[0] == "back" and self.is_fitting(place):
                self._backers[self._places[order[1]]].append(place)

    def met_by(self, place):
        """The place of the piece in the field to which this one goes, None if it is free."""
        return self._places.get(self.orders[place][1])

    def goers_to(self, field):
        """The places of all pieces that have the order to go to field, ascending."""
        return list(self._goers.get(field, []))

    def fields_gone_to(self):
        """All fields to which some piece has the order to go, ascending."""
        return sorted(self._goers)

    def is_going(self, place):
        """Whether this piece has the order to go."""
        return self.orders[place][0] == "go"

    def goes_against(self, place, other):
        """Whether this piece has the order to go to the field of the other one."""
        return self.orders[place] == ("go", self.fields[other])

    def goes_elsewhere(self, place, other):
        """Whether this piece has the order to go, and not to the field of the other one."""
        return self.is_going(place) and not self.goes_against(place, other)

    def is_foreign(self, place, other):
        """Whether these pieces are those of two players."""
        return self.players[place] != self.players[other]

    def foreign_goers_to(self, place):
        """The places of all foreign pieces that have the order to go to the field of this one, ascending."""
        goers = self._goers.get(self.fields[place], [])
        return [goer for goer in goers if self.is_foreign(goer, place)]

    def winner_into(self, settlement, field):
        """The place of the go into field that wins by settlement, None if none does."""
        for goer in self._goers.get(field, []):
            if settlement[goer]:
                return goer
        return None

    def is_fitting(self, place):
        """Whether the back of this piece fits."""
        order = self.orders[place]
        return is_fit(order, self.orders[self._places[order[1]]])

    def force_of(self, stands, place):
        """The force of this piece."""
        return 1 + len([other for other in self._backers[place] if stands[other]])

    def thrust_of(self, stands, place, barrier):
        """The thrust of this piece, barrier being the place of the one in its way that does not leave, or None."""
        if barrier is None:
            return self.force_of(stands, place)
        # Nobody helps to push out a piece of their own player.
        backers = [other for other in self._backers[place] if self.is_foreign(other, barrier)]
        return 1 + len([other for other in backers if stands[other]])
