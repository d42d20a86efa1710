"""Nets: lines and wishes that are added one after another, with undo."""

from onwardlines.errors import InvalidFixed, InvalidIndex, InvalidLine, InvalidWishes, NothingToUndo
from onwardlines.plans import MOST_LINES, MOST_WISHES, Plan, is_fixing, is_planned, is_wish
from onwardlines.whole import all_fit, is_below


def check_index(index, many):
    """Raise InvalidIndex unless this counts one of so many things."""
    if not is_below(index, many):
        raise InvalidIndex("the net has nothing with this number")


class Net:
    """Lines, wishes and fixed departures, and the calls that made them."""

    # The lists of lines, wishes and fixed departures are never changed, only
    # replaced, so that the past and the twins may have the same ones.

    def __init__(self):
        self._lines = []
        self._wishes = []
        self._fixed = []
        # The three lists ahead of each call that holds.
        self._past = []
        # For each mark the number of calls that held when it was made.
        self._marks = []

    def __len__(self):
        return len(self._past)

    def _remember(self):
        """Keep the lists as they are ahead of a call that changes one of them."""
        self._past.append((self._lines, self._wishes, self._fixed))

    def add(self, every, ride):
        """Add a line and return its number."""
        if not is_planned((every, ride)):
            raise InvalidLine("a line has a headway of at least 1, and a ride of at least 0")
        if len(self._lines) >= MOST_LINES:
            raise InvalidWishes("a net has at most 40 lines")
        if not all_fit([row[0] for row in self._lines] + [every]):
            raise InvalidWishes("of any two headways of a net one divides the other")
        self._remember()
        self._lines = self._lines + [(every, ride)]
        return len(self._lines) - 1

    def wish(self, i, j, walk):
        """Add a wish for a connection from line i to line j without a wait."""
        check_index(i, len(self._lines))
        check_index(j, len(self._lines))
        if not is_wish((i, j, walk), len(self._lines)):
            raise InvalidWishes("a walk is an integer that is not below 0")
        if len(self._wishes) >= MOST_WISHES:
            raise InvalidWishes("a net has at most 80 wishes")
        self._remember()
        self._wishes = self._wishes + [(i, j, walk)]

    def fix(self, i, at):
        """Fix the departure of a line."""
        check_index(i, len(self._lines))
        if i in [row[0] for row in self._fixed]:
            raise InvalidFixed("a line is fixed once")
        if not is_fixing((i, at), self._lines):
            raise InvalidFixed("a departure is from 0 to the headway less 1")
        self._remember()
        self._fixed = self._fixed + [(i, at)]

    def drop(self, index):
        """Take a wish away."""
        check_index(index, len(self._wishes))
        self._remember()
        self._wishes = self._wishes[:index] + self._wishes[index + 1:]

    def plan(self):
        """Return the plan of the lines, wishes and fixed departures."""
        return Plan(self._lines, self._wishes, self._fixed)

    def lines(self):
        """Return the tuples (every, ride) of the lines."""
        return list(self._lines)

    def wishes(self):
        """Return the tuples (i, j, walk) of the wishes."""
        return list(self._wishes)

    def fixed(self):
        """Return the tuples (i, at) of the fixed departures."""
        return list(self._fixed)

    def undo(self):
        """Undo the last call that holds, and remove the marks behind it."""
        if len(self._past) == 0:
            raise NothingToUndo("no call holds")
        self._lines, self._wishes, self._fixed = self._past.pop()
        self._marks = [calls for calls in self._marks if calls <= len(self._past)]

    def mark(self):
        """Make a mark and return its number."""
        self._marks.append(len(self._past))
        return len(self._marks) - 1

    def undo_to(self, index):
        """Undo the calls behind a mark, and remove all later marks."""
        check_index(index, len(self._marks))
        while len(self._past) > self._marks[index]:
            self.undo()
        # Marks may be later than this one without a call between.
        self._marks = self._marks[:index + 1]

    def twin(self):
        """Return a copy of this net that goes on apart from it."""
        other = Net()
        other._lines = self._lines
        other._wishes = self._wishes
        other._fixed = self._fixed
        other._past = list(self._past)
        other._marks = list(self._marks)
        return other
