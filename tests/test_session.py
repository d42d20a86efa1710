"""Point 15: sessions, with each of their lines and answers."""

import random
import unittest

import by_hand
import nets_by_hand
import texts_by_hand
from nets_by_hand import ReplayedNet
from onwardlines.errors import HeadwayError
from onwardlines.lines import Line, Stop, Walk
from onwardlines.net import Net
from onwardlines.routes import Route
from onwardlines.session import session

GREATEST = "9" * 30
TOO_GREAT = "1" + "0" * 30
BUS_AND_TRAIN = "walk 4 then every 15 from 3 ride 7 then every 60 from 20 ride 30"
COMMANDS = {"add": 2, "wish": 3, "fix": 2, "drop": 1, "count": 0, "nth": 1, "undo": 0, "mark": 0, "back": 1}


def asked(*rows):
    """The answers to some lines, as a list."""
    return session("\n".join(rows)).split("\n")


def last(*rows):
    """The answer to the last one of some lines."""
    return asked(*rows)[-1]


def dialogue(*rows):
    """Lines "question => answer" as the questions and the answers."""
    pairs = [row.split(" => ") for row in rows]
    return [question for question, _ in pairs], [answer for _, answer in pairs]


class Transcripts(unittest.TestCase):
    def follows(self, *rows):
        questions, answers = dialogue(*rows)
        self.assertEqual(asked(*questions), answers)

    def test_routes(self):
        self.follows(
            "route " + BUS_AND_TRAIN + " => every 60 from 59 ride 51",
            "start 0 " + BUS_AND_TRAIN + " => 110",
            "start 60 " + BUS_AND_TRAIN + " => 170",
            "start -1 " + BUS_AND_TRAIN + " => 50",
            "latest 120 " + BUS_AND_TRAIN + " => 59",
            "latest 50 " + BUS_AND_TRAIN + " => -1",
            "latest -3 " + BUS_AND_TRAIN + " => -61",
            "route walk 7 => every 1 from 0 ride 7",
            "route stop 15 from 3 => every 15 from 3 ride 0",
            "start -7 walk 7 => 0",
            "latest 0 walk 0 => 0",
            "start 4 stop 15 from 3 => 18")

    def test_a_net(self):
        self.follows(
            "undo => NothingToUndo",
            "count => InvalidWishes",
            "nth 0 => InvalidWishes",
            "mark => 0",
            "add 60 20 => 0",
            "add 30 10 => 1",
            "add 7 1 => InvalidWishes",
            "add 0 1 => InvalidLine",
            "count => 1800",
            "wish 0 1 4 => ok",
            "wish 0 2 4 => InvalidIndex",
            "wish 2 0 4 => InvalidIndex",
            "count => 60",
            "nth 0 => 0 24",
            "nth 59 => 59 23",
            "nth 60 => InvalidNumber",
            "mark => 1",
            "fix 1 0 => ok",
            "fix 1 0 => InvalidFixed",
            "fix 0 60 => InvalidFixed",
            "fix 2 0 => InvalidIndex",
            "count => 2",
            "nth 1 => 36 0",
            "wish 1 0 4 => ok",
            "count => 0",
            "nth 0 => NotPossible",
            f"nth {GREATEST} => NotPossible",
            "drop 2 => InvalidIndex",
            "drop 0 => ok",
            "count => 2",
            "nth 0 => 14 0",
            "undo => ok",
            "count => 0",
            "back 2 => InvalidIndex",
            "back 1 => ok",
            "count => 60",
            "mark => 2",
            "back 0 => ok",
            "count => InvalidWishes",
            "undo => NothingToUndo",
            "mark => 1",
            "add 6 5 => 0",
            "nth 5 => 5")

    def test_all_names_of_errors(self):
        self.follows(
            "add 0 0 => InvalidLine",
            "count => InvalidWishes",
            "add 6 5 => 0",
            "fix 0 6 => InvalidFixed",
            "fix 1 6 => InvalidIndex",
            "nth 6 => InvalidNumber",
            "wish 0 0 0 => ok",
            "nth 6 => NotPossible",
            "undo => ok",
            "undo => ok",
            "undo => NothingToUndo",
            "route walk => InvalidText")

    def test_full_nets(self):
        self.assertEqual(asked(*["add 6 5"] * 41), [str(number) for number in range(40)] + ["InvalidWishes"])
        self.assertEqual(asked("add 6 5", *["wish 0 0 1"] * 81), ["0"] + ["ok"] * 80 + ["InvalidWishes"])

    def test_great_numbers(self):
        self.follows(
            f"route every {GREATEST} from 5 ride {GREATEST} => every {GREATEST} from 5 ride {GREATEST}",
            f"start {GREATEST} walk {GREATEST} => {2 * int(GREATEST)}",
            f"start -{GREATEST} walk 1 => -{int(GREATEST) - 1}",
            f"latest -{GREATEST} walk 1 => -{10 ** 30}",
            f"add {GREATEST} {GREATEST} => 0",
            f"count => {GREATEST}",
            f"nth {int(GREATEST) - 1} => {int(GREATEST) - 1}",
            f"nth {GREATEST} => InvalidNumber",
            f"wish 0 0 {GREATEST} => ok",
            f"fix 0 {GREATEST} => InvalidFixed",
            f"drop {GREATEST} => InvalidIndex",
            f"back {GREATEST} => InvalidIndex",
            f"wish {GREATEST} 0 0 => InvalidIndex",
            f"wish 0 {GREATEST} 0 => InvalidIndex")

    def test_a_number_of_timetables_with_very_many_digits(self):
        self.assertEqual(last(*[f"add {GREATEST} 0"] * 40, "count"), str(int(GREATEST) ** 40))
        self.assertEqual(last(*[f"add {GREATEST} 0"] * 40, f"nth {GREATEST}"), "0 " * 38 + "1 0")


class RoutesThatCannotBeRead(unittest.TestCase):
    def test_invalid_text(self):
        for text in ("x", "walk", "walk x", "walk 07", "walk " + TOO_GREAT, "walk 7 then", "stop 4 from 4",
                     "stop 0 from 0", "stop 4 from 0 then stop 6 from 0", "every 15 from 3", "Walk 7", "-", "0",
                     "walk 7 walk 7", "walk -7", "walk 1 then route walk 1", " then ".join(["walk 1"] * 61)):
            for command in ("route", "start 0", "start -5", "latest 0", f"latest -{GREATEST}"):
                self.assertEqual(session(command + " " + text), "InvalidText", (command, text))
        self.assertEqual(session("start 5 6 walk 7"), "InvalidText")
        self.assertEqual(session("route 5 walk 7"), "InvalidText")

    def test_no_text_at_all(self):
        for row in ("route", "start", "latest", "start 5", "latest -5", "start x", "start -0"):
            self.assertEqual(session(row), "?")

    def test_sixty_legs(self):
        self.assertEqual(session("route " + " then ".join(["walk 1"] * 60)), "every 1 from 0 ride 60")

    def test_changed_texts(self):
        for text in ("every 12 from 3 ride 7 then walk 4", "stop 4 from 3"):
            for changed in texts_by_hand.changed_texts(text, texts_by_hand.ODD_WORDS):
                if "\n" in changed:
                    continue
                expected = "InvalidText"
                if "" in changed.split(" "):
                    expected = "?"
                elif texts_by_hand.is_route_text(changed):
                    expected = self.line_by_hand(changed)
                self.assertEqual(session("route " + changed), expected, changed)

    def line_by_hand(self, text):
        """The text of the line of a route, from the arrivals for all starts if these are not too many."""
        legs = [kind(*numbers) for kind, numbers in map(texts_by_hand.numbers_of_leg, text.split(" then "))]
        lines = [by_hand.numbers(leg) for leg in legs]
        if max(max(numbers) for numbers in lines) > 1000:
            return Route(*legs).line().text()
        every = max(leg.every for leg in legs)
        travels = [by_hand.arrival_of_all(lines, start) - start for start in range(every)]
        return f"every {every} from {travels.index(min(travels))} ride {min(travels)}"


class Times(unittest.TestCase):
    def test_what_may_stand_for_a_time(self):
        for time in ("0", "1", "-1", "10", "-10", GREATEST, "-" + GREATEST, "9" * 29, "-" + "9" * 29):
            self.assertEqual(session(f"start {time} walk 3"), str(int(time) + 3))
            self.assertEqual(session(f"latest {time} walk 3"), str(int(time) - 3))

    def test_what_may_not(self):
        for time in ("-0", "00", "01", "-01", "-00", "+1", "--1", "-", "x", "1-", "1_0", "1.0", TOO_GREAT,
                     "-" + TOO_GREAT, "9" * 31, "-" + "9" * 60, "walk", "-x", "0x1", "1,", "~1", "'1'"):
            for text in ("walk 3", "x"):
                self.assertEqual(session(f"start {time} {text}"), "?", time)
                self.assertEqual(session(f"latest {time} {text}"), "?", time)


class UnknownLines(unittest.TestCase):
    def test_unknown_commands(self):
        for row in ("x", "Route walk 7", "ROUTE walk 7", "routes walk 7", "adds 6 5", "ad 6 5", "Add 6 5", "undo_to 0",
                    "len", "twin", "plan", "lines", "wishes", "fixed", "quit", "?", "ok", "0", "-", "walk 7", "add",
                    "add\t6 5", "start,0 walk 7", "count()", "session", "read 7", "called", "told"):
            self.assertEqual(asked("add 6 5", row, "count"), ["0", "?", "6"], row)

    def test_missing_and_extra_words(self):
        for command, many in COMMANDS.items():
            for words in range(6):
                row = " ".join([command] + ["0"] * words)
                answers = asked("add 1 1", "mark", "wish 0 0 0", row, "nth 0")
                self.assertEqual(answers[3] == "?", words != many, row)

    def test_words_that_are_no_numbers(self):
        odd = ("-1", "-0", "00", "01", "+1", "x", "1_0", "1.0", TOO_GREAT, "9" * 31, "9" * 60, "None", "0x1", "1e3",
               "True", "'1'", "1,", "-", "count")
        for command, many in COMMANDS.items():
            for place in range(many):
                for word in odd:
                    words = ["0"] * many
                    words[place] = word
                    row = " ".join([command] + words)
                    self.assertEqual(asked("add 6 5", row, "count"), ["0", "?", "6"], row)

    def test_blanks(self):
        for row in ("count", "undo", "mark", "add 6 5", "route walk 7", "start 0 walk 7", "latest 0 walk 7", "nth 0",
                    "wish 0 0 1", "fix 0 1", "drop 0", "back 0", "x"):
            wrong = [row + " ", " " + row, " " + row + " ", row + "  "]
            if " " in row:
                wrong.extend([row.replace(" ", "  "), row.replace(" ", "  ", 1), row + "  " + "0"])
            for changed in wrong:
                self.assertEqual(session(changed), "?", changed)
                self.assertEqual(asked("add 6 5", changed, "count", "undo", "undo"),
                                 ["0", "?", "6", "ok", "NothingToUndo"])
        for row in ("", " ", "  ", "route ", "route  ", "start 0 ", "route walk 7 then "):
            self.assertEqual(session(row), "?")

    def test_they_change_nothing(self):
        rows = ["add 6 5", "mark", "wish 0 0 1", "fix 0 3", "mark"]
        unknown = ("add 6 -5", "wish 0 0", "fix 0", "drop x", "undo 0", "undo ", "mark 0", "back", "back -1", "nth",
                   "drop 00", " add 6 5", "", "Undo", "back  0")
        asked_then = ["count", "mark", "back 1", "drop 0", "back 0", "undo", "undo"]
        expected = asked(*rows, *asked_then)[len(rows):]
        self.assertEqual(expected, ["1", "2", "ok", "ok", "ok", "ok", "NothingToUndo"])
        for row in unknown:
            self.assertEqual(asked(*rows, row, *asked_then)[len(rows):], ["?"] + expected)
        for place in range(len(rows) + 1):
            mixed = rows[:place] + list(unknown) + rows[place:]
            self.assertEqual(asked(*mixed, *asked_then)[len(mixed):], expected)

    def test_errors_change_nothing(self):
        rows = ["add 6 5", "mark", "wish 0 0 1", "fix 0 3", "mark"]
        wrong = ("add 0 5", "add 7 5", "wish 1 0 0", "wish 0 1 0", "fix 0 3", "fix 1 3", "drop 1", "back 2", "nth 1",
                 "route walk", "start 0 walk x", "latest 0 x")
        asked_then = ["count", "mark", "back 1", "drop 0", "back 0", "undo", "undo"]
        expected = asked(*rows, *asked_then)[len(rows):]
        answers = asked(*rows, *wrong, *asked_then)[len(rows):]
        self.assertTrue(all(answer[0].isupper() for answer in answers[:len(wrong)]), answers)
        self.assertEqual(answers[len(wrong):], expected)


class WholeSessions(unittest.TestCase):
    def test_one_answer_for_each_line(self):
        self.assertEqual(session(""), "?")
        self.assertEqual(session("\n"), "?\n?")
        self.assertEqual(session("add 6 5"), "0")
        self.assertEqual(session("add 6 5\n"), "0\n?")
        self.assertEqual(session("\nadd 6 5"), "?\n0")
        self.assertEqual(session("add 6 5\n\ncount"), "0\n?\n6")
        self.assertEqual(session("add 6 5\n \ncount\n\n"), "0\n?\n6\n?\n?")
        self.assertEqual(session(rows="mark\nmark"), "0\n1")

    def test_two_hundred_lines(self):
        rows = ["add 6 5", "mark"] + ["wish 0 0 1", "undo", "mark"] * 65 + ["count", "back 3", "undo"]
        answers = asked(*rows)
        self.assertEqual(len(answers), 200)
        expected = ["0", "0"]
        for number in range(65):
            expected.extend(["ok", "ok", str(number + 1)])
        self.assertEqual(answers, expected + ["6", "ok", "ok"])
        self.assertEqual(asked(*["count"] * 200), ["InvalidWishes"] * 200)
        self.assertEqual(asked(*[""] * 200), ["?"] * 200)

    def test_each_session_has_a_net_of_its_own(self):
        rows = "add 6 5\nmark\nwish 0 0 2\ncount\nnth 0\nundo\ncount"
        first = session(rows)
        self.assertEqual(session("count\nundo\nback 0"), "InvalidWishes\nNothingToUndo\nInvalidIndex")
        self.assertEqual(session(rows), first)
        self.assertEqual(first, "0\n0\nok\n0\nNotPossible\nok\n6")

    def test_drawn_sessions(self):
        names = {}
        for seed in range(60):
            chosen = random.Random(seed)
            rows, expected = self.drawn(chosen)
            self.assertEqual(asked(*rows), expected)
            self.assertEqual(asked(*rows), expected)
            for answer in expected:
                names[answer] = names.get(answer, 0) + 1
        for name in ("ok", "?", "InvalidLine", "InvalidWishes", "InvalidFixed", "InvalidIndex", "InvalidNumber",
                     "NothingToUndo", "NotPossible"):
            self.assertGreater(names[name], 5, name)

    def drawn(self, chosen):
        """The lines of a session for the net, and the answers of a net that is called for them."""
        replayed, net = ReplayedNet(), Net()
        rows, expected = [], []
        for _ in range(120):
            if chosen.random() < 0.2:
                name, given = chosen.choice([("count", ()), ("nth", (chosen.randint(0, 3),))])
            else:
                name, given = nets_by_hand.drawn_call(chosen, replayed, (1, 2, 4, 8))
            rows.append(" ".join([{"undo_to": "back"}.get(name, name)] + [str(number) for number in given]))
            if any(number < 0 or number >= 10 ** 30 for number in given):
                expected.append("?")
                continue
            if name in ("count", "nth"):
                expected.append(self.answer(lambda: getattr(net.plan(), name)(*given)))
                continue
            if replayed.error(name, given) is None:
                replayed.call(name, given)
            expected.append(self.answer(lambda: getattr(net, name)(*given)))
        return rows, expected

    def answer(self, call):
        try:
            result = call()
        except HeadwayError as error:
            return type(error).__name__
        if isinstance(result, list):
            return " ".join(map(str, result))
        return "ok" if result is None else str(result)

    def test_routes_of_all_kinds(self):
        for legs in by_hand.SMALL_ROUTES + ([Line(15, 3, 7), Walk(2), Stop(60, 59)],):
            text = " then ".join(leg.text() for leg in legs)
            route = Route(*legs)
            self.assertEqual(session("route " + text), route.line().text())
            for time in range(-13, 14):
                start = str(by_hand.arrival_of_all([by_hand.numbers(leg) for leg in legs], time))
                latest = str(by_hand.latest([by_hand.numbers(leg) for leg in legs], time, 300))
                self.assertEqual(asked(f"start {time} {text}", f"latest {time} {text}"), [start, latest])


if __name__ == "__main__":
    unittest.main()
