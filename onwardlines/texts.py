"""Routes and wishes as texts: words between single blanks."""

from onwardlines.errors import InvalidText, InvalidWishes
from onwardlines.lines import Line, Stop, Walk
from onwardlines.plans import MOST_LINES, MOST_WISHES, is_row
from onwardlines.routes import MOST_LEGS, Route
from onwardlines.whole import all_fit, written

MOST_DIGITS = 30
KINDS = ("every", "walk", "stop")
NO_WISHES = "-"


def is_number(word):
    """Return whether a word is a number of 1 to 30 digits without leading zeros."""
    if not (word.isascii() and word.isdigit()) or len(word) > MOST_DIGITS:
        return False
    return word == "0" or not word.startswith("0")


def is_number_below(word, bound):
    """Return whether a word is a number that is less than a bound."""
    return is_number(word) and int(word) < bound


def is_headway(word, headways):
    """Return whether a word is a headway that fits some others."""
    return is_number(word) and word != "0" and all_fit(headways + [int(word)])


class Words:
    """The words of a text, read from the first to the last."""

    def __init__(self, text):
        self._words = text.split(" ")
        self._done = 0

    def ended(self):
        """Return whether all words are read."""
        return self._done == len(self._words)

    def read(self, can_stand):
        """Return the next word; can_stand tells whether a word can stand there."""
        if self.ended() or not can_stand(self._words[self._done]):
            raise InvalidText(self._done)
        self._done += 1
        return self._words[self._done - 1]


def read_leg(words, headways):
    """Return the leg that comes next; headways are those of the legs before."""
    kind = words.read(lambda word: word in KINDS)
    if kind == "walk":
        return Walk(int(words.read(is_number)))
    every = int(words.read(lambda word: is_headway(word, headways)))
    words.read(lambda word: word == "from")
    at = int(words.read(lambda word: is_number_below(word, every)))
    if kind == "stop":
        return Stop(every, at)
    words.read(lambda word: word == "ride")
    return Line(every, at, int(words.read(is_number)))


def write_route(route):
    """Return the text of a route."""
    return " then ".join([leg.text() for leg in route.legs])


def read_route(text):
    """Return the route of a text."""
    words = Words(text)
    legs = [read_leg(words, [])]
    while not words.ended():
        words.read(lambda word: word == "then" and len(legs) < MOST_LEGS)
        legs.append(read_leg(words, [leg.every for leg in legs]))
    return Route.of(legs)


def parts_of(word):
    """Return what stands ahead of the first >, ahead of the first + behind it, and behind that."""
    i, _, rest = word.partition(">")
    j, _, walk = rest.partition("+")
    return (i, j, walk)


def is_wish_word(word):
    """Return whether a word writes a wish."""
    # A part that is left out is empty, and thus no number.
    i, j, walk = parts_of(word)
    return is_number_below(i, MOST_LINES) and is_number_below(j, MOST_LINES) and is_number(walk)


def is_written_wish(thing):
    """Return whether an object is a tuple of three integers of which none is below 0."""
    return is_row(thing, 3) and min(thing) >= 0


def write_wishes(wishes):
    """Return the text of a list of wishes."""
    if not isinstance(wishes, list) or not all([is_written_wish(row) for row in wishes]):
        raise InvalidWishes("wishes are a list of tuples of two lines and a walk")
    if len(wishes) == 0:
        return NO_WISHES
    return " ".join([f"{i}>{j}+{written(walk)}" for i, j, walk in wishes])


def wish_of(word):
    """Return the wish that a word writes."""
    i, j, walk = parts_of(word)
    return (int(i), int(j), int(walk))


def read_wishes(text):
    """Return the list of wishes of a text."""
    words = Words(text)
    first = words.read(lambda word: word == NO_WISHES or is_wish_word(word))
    found = [] if first == NO_WISHES else [wish_of(first)]
    while not words.ended():
        # Behind a lone minus nothing was found, and nothing can stand.
        following = words.read(lambda word: 1 <= len(found) < MOST_WISHES and is_wish_word(word))
        found.append(wish_of(following))
    return found
