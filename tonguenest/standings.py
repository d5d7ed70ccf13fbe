"""Standings by numbers, so that even those of many open doors are kept and compared at once."""


class Standings:
    """The same standing has always the same number; that of no open door has 0."""

    def __init__(self):
        # By a standing's number: the number of the standing around its innermost door, and this door, (inner, close).
        self.rows = [None]
        self.numbers = {}

    def within(self, number, door):
        """The number of the standing in which this door, too, is open."""
        row = (number, door)
        if row not in self.numbers:
            self.numbers[row] = len(self.rows)
            self.rows.append(row)
        return self.numbers[row]

    def around(self, number):
        """The number of the standing in which the innermost door is shut."""
        outer, door = self.rows[number]
        return outer

    def doors_by(self, number):
        """The open doors of the standing, from the outermost one on, each as (inner, close)."""
        doors = []
        while number != 0:
            number, door = self.rows[number]
            doors.append(door)
        doors.reverse()
        return doors
