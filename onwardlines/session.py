"""Sessions: lines of text, each with one line of answer."""

from onwardlines.errors import HeadwayError
from onwardlines.net import Net
from onwardlines.texts import is_number, read_route

# How many numbers stand behind each command for the net.
NUMBERS = {"add": 2, "wish": 3, "fix": 2, "drop": 1, "count": 0, "nth": 1, "undo": 0, "mark": 0, "back": 1}
UNKNOWN = "?"


def is_time(word):
    """Return whether a word is a number, or one that is not 0 behind a minus."""
    if word.startswith("-"):
        return word != "-0" and is_number(word[1:])
    return is_number(word)


def called(net, command, numbers):
    """Return what the call of a command for the net returns."""
    if command == "add":
        return net.add(*numbers)
    if command == "wish":
        return net.wish(*numbers)
    if command == "fix":
        return net.fix(*numbers)
    if command == "drop":
        return net.drop(*numbers)
    if command == "count":
        return net.plan().count()
    if command == "nth":
        return net.plan().nth(*numbers)
    if command == "undo":
        return net.undo()
    if command == "mark":
        return net.mark()
    return net.undo_to(*numbers)


def shown(result):
    """Return the words for what a call returned."""
    if result is None:
        return "ok"
    if isinstance(result, list):
        return " ".join([str(number) for number in result])
    return str(result)


def told(net, command, rest):
    """Return the answer to a command and the words behind it, if there is no error."""
    if command == "route" and len(rest) >= 1:
        return read_route(" ".join(rest)).line().text()
    if command in ("start", "latest") and len(rest) >= 2 and is_time(rest[0]):
        route = read_route(" ".join(rest[1:]))
        time = int(rest[0])
        return str(route(time) if command == "start" else route.latest(time))
    if command in NUMBERS and len(rest) == NUMBERS[command] and all([is_number(word) for word in rest]):
        return shown(called(net, command, [int(word) for word in rest]))
    return UNKNOWN


def answer(net, row):
    """Return the answer to one line."""
    words = row.split(" ")
    if "" in words:
        return UNKNOWN
    try:
        return told(net, words[0], words[1:])
    except HeadwayError as error:
        return type(error).__name__


def session(rows):
    """Return the answers to the lines of a string, one line for each."""
    net = Net()
    return "\n".join([answer(net, row) for row in rows.split("\n")])
