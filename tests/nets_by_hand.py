"""Nets judged without the package: all calls are kept, and replayed for each question."""

from onwardlines.errors import InvalidFixed, InvalidIndex, InvalidLine, InvalidWishes, NothingToUndo

CHAINS = ((1, 2, 4, 8), (1, 3, 6, 12), (5, 10), (7,), (1, 10 ** 30, 10 ** 59))


class ReplayedNet:
    """A net that remembers nothing but the calls that hold, and the marks."""

    def __init__(self):
        self.calls = []
        self.marks = []

    def content(self):
        """The lines, wishes and fixed departures."""
        lines, wishes, fixed = [], [], []
        for name, *given in self.calls:
            if name == "drop":
                del wishes[given[0]]
            else:
                {"add": lines, "wish": wishes, "fix": fixed}[name].append(tuple(given))
        return lines, wishes, fixed

    def error(self, name, given):
        """The class of the error that a call raises, or None."""
        lines, wishes, fixed = self.content()
        many = {"wish": [len(lines), len(lines)], "fix": [len(lines)], "drop": [len(wishes)],
                "undo_to": [len(self.marks)]}.get(name, [])
        if any(index not in range(bound) for index, bound in zip(given, many)):
            return InvalidIndex
        if name == "undo":
            return None if self.calls else NothingToUndo
        if name == "add":
            every, ride = given
            if every < 1 or ride < 0:
                return InvalidLine
            wrong = any(every % other and other % every for other, _ in lines)
            return InvalidWishes if wrong or len(lines) == 40 else None
        if name == "wish":
            return InvalidWishes if given[2] < 0 or len(wishes) == 80 else None
        if name == "fix":
            i, at = given
            return InvalidFixed if i in dict(fixed) or at not in range(lines[i][0]) else None
        return None

    def call(self, name, given):
        """Do a call that raises no error, and return its result."""
        if name == "mark":
            self.marks.append(len(self.calls))
            return len(self.marks) - 1
        if name == "undo":
            self.calls.pop()
            self.marks = [place for place in self.marks if place <= len(self.calls)]
            return None
        if name == "undo_to":
            self.calls = self.calls[:self.marks[given[0]]]
            self.marks = self.marks[:given[0] + 1]
            return None
        self.calls.append((name, *given))
        return len(self.content()[0]) - 1 if name == "add" else None

    def twin(self):
        copied = ReplayedNet()
        copied.calls, copied.marks = list(self.calls), list(self.marks)
        return copied


def drawn_call(chosen, replayed, chain):
    """A call that is drawn; about two thirds of them raise no error."""
    lines, wishes, _ = replayed.content()
    name = chosen.choice(["add", "wish", "wish", "fix", "drop", "undo", "mark", "mark", "undo_to"])
    index = chosen.randint(-1, len(lines))
    if name == "add":
        given = (chosen.choice(chain), chosen.randint(0, 9))
        return name, chosen.choice([given, given, given, (0, 5), (9, -1), (11, 3)])
    if name == "wish":
        return name, (index, chosen.randint(0, len(lines)), chosen.choice([0, 3, 7, 10 ** 59, -1]))
    if name == "fix":
        every = lines[index][0] if index in range(len(lines)) else 5
        return name, (index, chosen.choice([0, every - 1, every // 2, every, -1]))
    if name == "drop":
        return name, (chosen.randint(-1, len(wishes)),)
    if name == "undo_to":
        return name, (chosen.randint(-1, len(replayed.marks)),)
    return name, ()


def lists(net):
    """What a net tells of itself."""
    return net.lines(), net.wishes(), net.fixed(), len(net)


def everything(net):
    """What a net tells, also after each number of calls to undo, and after undo_to for each mark."""
    gone, told = net.twin(), [lists(net)]
    while len(gone):
        gone.undo()
        told.append((lists(gone), gone.twin().mark()))
    for index in range(net.twin().mark()):
        back = net.twin()
        back.undo_to(index)
        told.append((lists(back), back.mark()))
    return told, net.twin().mark()
