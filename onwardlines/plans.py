"""Plans: lines and wishes, and the timetables with which all wishes hold."""

from onwardlines.errors import InvalidFixed, InvalidIndex, InvalidNumber, InvalidWishes, NotPossible
from onwardlines.whole import all_fit, is_below, is_integer

MOST_LINES = 40
MOST_WISHES = 80


def is_row(thing, many):
    """Return whether an object is a tuple of so many integers."""
    return isinstance(thing, tuple) and len(thing) == many and all([is_integer(part) for part in thing])


def is_planned(thing):
    """Return whether an object is a tuple of a headway and a ride."""
    return is_row(thing, 2) and thing[0] >= 1 and thing[1] >= 0


def is_wish(thing, many):
    """Return whether an object is a wish for so many lines."""
    return is_row(thing, 3) and is_below(thing[0], many) and is_below(thing[1], many) and thing[2] >= 0


def is_fixing(thing, lines):
    """Return whether an object is a tuple of one of the lines and a departure of it."""
    return is_row(thing, 2) and is_below(thing[0], len(lines)) and is_below(thing[1], lines[thing[0]][0])


def check_lines(lines):
    """Raise InvalidWishes unless these are the lines of a plan."""
    if not isinstance(lines, list) or not 1 <= len(lines) <= MOST_LINES:
        raise InvalidWishes("a plan has a list of 1 to 40 lines")
    if not all([is_planned(row) for row in lines]):
        raise InvalidWishes("a line of a plan is a tuple of a headway and a ride")
    if not all_fit([every for every, ride in lines]):
        raise InvalidWishes("of any two headways of a plan one divides the other")


def check_wishes(wishes, many):
    """Raise InvalidWishes unless these are wishes for so many lines."""
    if not isinstance(wishes, list) or len(wishes) > MOST_WISHES:
        raise InvalidWishes("a plan has a list of 0 to 80 wishes")
    if not all([is_wish(row, many) for row in wishes]):
        raise InvalidWishes("a wish is a tuple of two lines and a walk")


def check_fixed(fixed, lines):
    """Raise InvalidFixed unless these are fixed departures of the lines."""
    if not isinstance(fixed, list) or not all([is_fixing(row, lines) for row in fixed]):
        raise InvalidFixed("fixed departures are a list of tuples of a line and its departure")
    if len({i for i, at in fixed}) < len(fixed):
        raise InvalidFixed("a line is fixed once")


def shift_of(lines, wish):
    """Return by how much a wish puts the departure of its second line behind the first one's."""
    i, _, walk = wish
    return lines[i][1] + walk


def steps_of(modulus, lines, wishes):
    """Return for each line with such a headway the steps to others: (line, shift, step of a way)."""
    steps = {i: [] for i in range(len(lines)) if lines[i][0] >= modulus}
    for k, wish in enumerate(wishes):
        i, j, _ = wish
        if i in steps and j in steps:
            shift = shift_of(lines, wish)
            steps[i].append((j, shift, (k, True)))
            steps[j].append((i, -shift, (k, False)))
    return steps


class Level:
    """The lines whose headways are at least a modulus, as far as wishes tie them together.

    Each of these lines has a root (one line for all lines that are tied
    together), a way of wishes from the root, and an offset: the sum of the way.
    If the wishes hold, it departs so much behind the root, modulo the modulus.
    """

    def __init__(self, modulus, lines, wishes, starts):
        self.modulus = modulus
        self.roots = {}
        self.offsets = {}
        self.ways = {}
        steps = steps_of(modulus, lines, wishes)
        for root in starts:
            if root in steps and root not in self.roots:
                self._grow(root, steps)

    def _grow(self, root, steps):
        """Take in a root, and all lines that wishes tie to it."""
        self._place(root, root, 0, [])
        waiting = [root]
        while waiting:
            # The line that waits longest comes first, so that ways are short.
            line = waiting.pop(0)
            for other, shift, step in steps[line]:
                if other not in self.roots:
                    self._place(other, root, self.offsets[line] + shift, self.ways[line] + [step])
                    waiting.append(other)

    def _place(self, line, root, offset, way):
        self.roots[line] = root
        self.offsets[line] = offset
        self.ways[line] = way

    def breaks(self, i, j, shift):
        """Return whether line j cannot depart so much behind line i, if both have the same root."""
        return (self.offsets[i] + shift - self.offsets[j]) % self.modulus != 0

    def ring_with(self, k, i, j):
        """Return the ring of wish k, from i to j, and of ways of both lines."""
        there, back = self.ways[i], self.ways[j]
        shared = 0
        while shared < len(there) and shared < len(back) and there[shared] == back[shared]:
            shared += 1
        returned = [(wish, not forward) for wish, forward in back[shared:]]
        return there[shared:] + [(k, True)] + returned[::-1]


class Plan:
    """Lines and wishes between them; some of the lines may have fixed departures."""

    def __init__(self, lines, wishes, fixed):
        check_lines(lines)
        check_wishes(wishes, len(lines))
        check_fixed(fixed, lines)
        self._lines = list(lines)
        self._wishes = list(wishes)
        self._fixed = {i: at for i, at in fixed}
        # The root of lines that are tied together is a fixed one or else the first
        # one, so that a root is known before the other lines are asked for.
        starts = list(self._fixed) + list(range(len(lines)))
        moduli = sorted({every for every, ride in lines})
        self._levels = [Level(modulus, self._lines, self._wishes, starts) for modulus in moduli]

    def is_timetable(self, thing):
        """Return whether an object is a timetable of this plan."""
        if not isinstance(thing, list) or len(thing) != len(self._lines):
            return False
        if not all([is_below(at, row[0]) for at, row in zip(thing, self._lines)]):
            return False
        if not all([thing[i] == at for i, at in self._fixed.items()]):
            return False
        return all([self._holds(wish, thing) for wish in self._wishes])

    def _holds(self, wish, timetable):
        i, j, _ = wish
        late = timetable[i] + shift_of(self._lines, wish) - timetable[j]
        return late % min(self._lines[i][0], self._lines[j][0]) == 0

    def conflict(self):
        """Return None if there is a timetable, else a certificate that there is none."""
        for level in self._levels:
            ring = self._wrong_ring(level)
            if ring is not None:
                return ring
        for level in self._levels:
            way = self._wrong_way(level)
            if way is not None:
                return way
        return None

    def _wrong_ring(self, level):
        """Return a ring whose sum is no multiple of the level's modulus, or None."""
        for k, wish in enumerate(self._wishes):
            i, j, _ = wish
            if i in level.roots and j in level.roots and level.breaks(i, j, shift_of(self._lines, wish)):
                return level.ring_with(k, i, j)
        return None

    def _wrong_way(self, level):
        """Return two fixed lines and a way that contradicts their departures, or None."""
        for j, at in self._fixed.items():
            if j in level.roots:
                i = level.roots[j]
                if (self._fixed[i] + level.offsets[j] - at) % level.modulus != 0:
                    return (i, j, list(level.ways[j]))
        return None

    def shows_conflict(self, thing):
        """Return whether an object is a certificate that there is no timetable."""
        if isinstance(thing, list):
            return self._is_wrong_ring(thing)
        if isinstance(thing, tuple) and len(thing) == 3:
            return self._is_wrong_way(thing)
        return False

    def _is_wrong_ring(self, thing):
        if not self._is_way(thing):
            return False
        first, last, total, least = self._walked(thing)
        return first == last and total % least != 0

    def _is_wrong_way(self, thing):
        i, j, way = thing
        if not (self._is_fixed(i) and self._is_fixed(j) and self._is_way(way)):
            return False
        first, last, total, least = self._walked(way)
        return first == i and last == j and (self._fixed[i] + total - self._fixed[j]) % least != 0

    def _is_fixed(self, thing):
        return is_integer(thing) and thing in self._fixed

    def _is_way(self, thing):
        """Return whether an object is a list of wishes, each one from where the last one ends."""
        if not isinstance(thing, list) or len(thing) == 0:
            return False
        if not all([self._is_step(step) for step in thing]):
            return False
        ends = [self._ends(step) for step in thing]
        return all([before[1] == after[0] for before, after in zip(ends, ends[1:])])

    def _is_step(self, thing):
        return (isinstance(thing, tuple) and len(thing) == 2
                and is_below(thing[0], len(self._wishes)) and isinstance(thing[1], bool))

    def _ends(self, step):
        """Return the lines at which a step begins and ends."""
        k, forward = step
        i, j, _ = self._wishes[k]
        return (i, j) if forward else (j, i)

    def _walked(self, way):
        """Return where a way begins and ends, its sum, and the least headway on it."""
        total = 0
        least = self._lines[self._ends(way[0])[0]][0]
        for step in way:
            k, forward = step
            shift = shift_of(self._lines, self._wishes[k])
            total += shift if forward else -shift
            least = min(least, self._lines[self._ends(step)[1]][0])
        return (self._ends(way[0])[0], self._ends(way[-1])[1], total, least)

    def count(self):
        """Return the number of timetables."""
        if self.conflict() is not None:
            return 0
        many = 1
        known = dict(self._fixed)
        for i, (every, _) in enumerate(self._lines):
            # Whichever departure a line takes, the later ones have as many left.
            value, modulus = self._bound(i, known)
            many *= every // modulus
            known[i] = value
        return many

    def nth(self, number):
        """Return the timetable with a number, in ascending order."""
        self._check_possible()
        many = self.count()
        if not is_below(number, many):
            raise InvalidNumber("so many timetables there are not")
        known = dict(self._fixed)
        for i, (every, _) in enumerate(self._lines):
            value, modulus = self._bound(i, known)
            many //= every // modulus
            place, number = divmod(number, many)
            known[i] = value + place * modulus
        return [known[i] for i in range(len(self._lines))]

    def number_of(self, thing):
        """Return the number of a timetable."""
        if not self.is_timetable(thing):
            raise InvalidWishes("this is no timetable of the plan")
        number = 0
        known = dict(self._fixed)
        for i, (every, _) in enumerate(self._lines):
            modulus = self._bound(i, known)[1]
            number = number * (every // modulus) + thing[i] // modulus
            known[i] = thing[i]
        return number

    def departure_of(self, i):
        """Return value and modulus of all departures that a line has in timetables."""
        self._check_line(i)
        self._check_possible()
        return self._bound(i, self._fixed)

    def between(self, i, j):
        """Return value and modulus of the departures of line j less those of line i."""
        self._check_line(i)
        self._check_line(j)
        self._check_possible()
        found = (0, 1)
        for level in self._levels:
            if i in level.roots and j in level.roots and self._are_tied(level.roots[i], level.roots[j]):
                late = self._behind(level, j) - self._behind(level, i)
                found = (late % level.modulus, level.modulus)
        return found

    def _are_tied(self, one, other):
        """Return whether wishes or fixed departures tie two roots together."""
        return one == other or (one in self._fixed and other in self._fixed)

    def _behind(self, level, i):
        """Return how much a line departs behind time 0 or, where it is not fixed, behind its root."""
        return self._fixed.get(level.roots[i], 0) + level.offsets[i]

    def _bound(self, i, known):
        """Return value and modulus of a line's departures, if those of other lines are known."""
        found = (0, 1)
        for level in self._levels:
            # Each level ties together a part of what the one before does, so
            # the last one that reaches a known line has the most to say.
            if i in level.roots and level.roots[i] in known:
                departure = known[level.roots[i]] + level.offsets[i]
                found = (departure % level.modulus, level.modulus)
        return found

    def _check_line(self, i):
        if not is_below(i, len(self._lines)):
            raise InvalidIndex("the plan has no such line")

    def _check_possible(self):
        certificate = self.conflict()
        if certificate is not None:
            raise NotPossible(certificate)
