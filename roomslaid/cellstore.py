"""A store that holds its things in the cells of a room, by a laying."""

from roomslaid.roomstore import RoomStore


class Cells(RoomStore):
    """Things in the cells of one room; beside each look the places that it touches are kept."""

    def __init__(self, laying, records):
        RoomStore.__init__(self, [laying], records)
        self.laying = laying
        self.lay_records(records)

    def side_of(self, thing):
        return 0

    def shown(self, spots):
        return [place for side, place in spots]

    def cells(self):
        """The cells of its room as they are, a new list each time."""
        return self.rooms[0].cells()
