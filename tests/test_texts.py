"""Point 14: routes and wishes as texts."""

import itertools
import random
import unittest

import by_hand
import texts_by_hand
from by_hand import numbers_of, raised
from onwardlines.errors import InvalidText, InvalidWishes
from onwardlines.lines import Line, Stop, Walk
from onwardlines.routes import Route
from onwardlines.texts import read_route, read_wishes, write_route, write_wishes

GREATEST = 10 ** 30 - 1
ROUTE_TEXTS = (
    "walk 7",
    "stop 15 from 3",
    "every 15 from 3 ride 7",
    "every 1 from 0 ride 0 then walk 0 then stop 1 from 0",
    "every 12 from 3 ride 7 then walk 4 then stop 4 from 3 then every 24 from 23 ride 100",
    "stop 4 from 3 then every 12 from 3 ride 7 then walk 4",
)
WISHES = ([], [(0, 0, 0)], [(0, 1, 4), (1, 0, 4)], [(39, 39, GREATEST), (10, 9, 100), (0, 39, 0), (39, 0, 0)],
          [(k % 40, (7 * k) % 40, k ** 12) for k in range(80)])


def wrong(read, text):
    """The number of the word that a read function refuses, or None."""
    try:
        read(text)
    except InvalidText as error:
        assert type(error) is InvalidText and type(error.word) is int
        return error.word
    return None


def full_legs():
    """Sixty legs with numbers of up to 30 digits."""
    legs = by_hand.sixty_legs()[:57]
    great = 24 * 10 ** 28
    return legs + [Line(great, great - 1, GREATEST), Walk(GREATEST), Stop(great, 0)]


class Routes(unittest.TestCase):
    def agree(self, text):
        """Check that a text is read, or refused, as the patterns say; return the number of the word."""
        expected = texts_by_hand.wrong_in_route(text)
        self.assertEqual(wrong(read_route, text), expected, repr(text))
        if expected is None:
            self.assertEqual(write_route(read_route(text)), text)
        return expected

    def test_each_kind_of_leg(self):
        for leg, text in ((Line(15, 3, 7), "every 15 from 3 ride 7"), (Walk(7), "walk 7"),
                          (Stop(15, 3), "stop 15 from 3"), (Line(1, 0, 7), "every 1 from 0 ride 7"),
                          (Line(15, 3, 0), "every 15 from 3 ride 0"), (Walk(0), "walk 0"),
                          (Stop(1, 0), "stop 1 from 0"), (Line(GREATEST, GREATEST - 1, GREATEST),
                                                          f"every {GREATEST} from {GREATEST - 1} ride {GREATEST}")):
            self.assertEqual(write_route(Route(leg)), text)
            route = read_route(text)
            self.assertIs(type(route), Route)
            self.assertEqual([type(each) for each in route.legs], [type(leg)])
            self.assertEqual(route.legs, [leg])

    def test_several_legs(self):
        route = Route(Walk(4), Line(15, 3, 7), Stop(60, 20))
        self.assertEqual(write_route(route), "walk 4 then every 15 from 3 ride 7 then stop 60 from 20")

    def test_read_after_write(self):
        for legs in by_hand.SMALL_ROUTES + (by_hand.sixty_legs(), full_legs()):
            route = Route(*legs)
            again = read_route(write_route(route))
            self.assertEqual(numbers_of(again), numbers_of(route))
            self.assertEqual([leg.KIND for leg in again.legs], [leg.KIND for leg in legs])

    def test_write_after_read(self):
        for text in ROUTE_TEXTS:
            self.assertEqual(write_route(read_route(text)), text)
            self.assertEqual(write_route(route=read_route(text=text)), text)

    def test_known_words_that_cannot_stand(self):
        for text, word in (("", 0), (" ", 0), ("walk", 1), ("walk ", 1), (" walk 7", 0), ("walk 7 ", 2),
                           ("walk  7", 1), ("walk 7 then", 3), ("walk 7 then ", 3), ("walk 7 then then walk 7", 3),
                           ("walk 7 walk 7", 2), ("then walk 7", 0), ("walk 07", 1), ("walk -7", 1), ("walk +7", 1),
                           ("walk 1_0", 1), ("walk seven", 1), ("Walk 7", 0), ("walk 7\n", 1), ("walk\n7", 0),
                           ("walk\n 7", 0), ("walk 7 then\nwalk 7", 2), ("every 0 from 0 ride 0", 1),
                           ("stop 0 from 0", 1), ("every 15 from 15 ride 0", 3), ("stop 15 from 16", 3),
                           ("every 15 from 3", 4), ("every 15 from 3 ride", 5), ("every 15", 2), ("every", 1),
                           ("stop 15 from", 3), ("stop 15 from 3 ride 0", 4), ("every 15 at 3 ride 7", 2),
                           ("stop 4 from 0 then stop 6 from 0", 6), ("stop 6 from 0 then stop 4 from 0", 6),
                           ("stop 4 from 0 then walk 7 then stop 6 from 0", 9), ("every 15 ride 7 from 3", 2)):
            self.assertEqual(wrong(read_route, text), word, repr(text))
            self.assertEqual(self.agree(text), word)

    def test_a_headway_that_fits_the_last_leg_alone(self):
        begun = "stop 4 from 0 then stop 12 from 0 then stop "
        for every, word in (("6", 11), ("3", 11), ("18", 11), ("8", 11), ("2", None), ("24", None), ("4", None)):
            self.assertEqual(self.agree(begun + every + " from 1"), word)

    def test_numbers_of_thirty_and_more_digits(self):
        for digits in (1, 2, 29, 30, 31, 32, 60):
            great = "9" * digits
            word = None if digits <= 30 else 1
            self.assertEqual(self.agree(f"walk {great}"), word)
            self.assertEqual(self.agree(f"stop {great} from 0"), word)
            self.assertEqual(self.agree(f"every 15 from 3 ride {great}"), None if digits <= 30 else 5)
            self.assertEqual(self.agree(f"stop {great} from {great}"), 3 if digits <= 30 else 1)
            self.assertEqual(self.agree(f"stop {GREATEST} from 1{'0' * (digits - 1)}"), None if digits <= 30 else 3)

    def test_cut_off_behind_each_word(self):
        for text in ROUTE_TEXTS:
            words = text.split(" ")
            for many in range(1, len(words)):
                begun = " ".join(words[:many])
                self.assertEqual(self.agree(begun), None if words[many] == "then" else many)
                self.assertEqual(self.agree(begun + " "), many)

    def test_changed_texts(self):
        words = {}
        for text in ROUTE_TEXTS:
            for changed in texts_by_hand.changed_texts(text, texts_by_hand.ODD_WORDS):
                word = self.agree(changed)
                words[word] = words.get(word, 0) + 1
        self.assertGreater(words[None], 100)
        self.assertGreater(len(words), 15)

    def test_drawn_words(self):
        chosen = random.Random(5)
        likely = ["then", "every", "walk", "stop", "from", "ride", "0", "1", "2", "4", "6", "12"]
        for _ in range(3000):
            legs = [" ".join(str(part) for part in chosen.choice((
                ("walk", chosen.randint(0, 9)), ("stop", chosen.choice((2, 4, 6, 12)), "from", chosen.randint(0, 4)),
                ("every", chosen.choice((1, 4, 12, 8)), "from", chosen.randint(0, 3), "ride", 5))))
                for _ in range(chosen.randint(1, 4))]
            words = " then ".join(legs).split(" ")
            for _ in range(chosen.randint(0, 2)):
                words[chosen.randrange(len(words))] = chosen.choice(likely)
            self.agree(" ".join(words))

    def test_sixty_legs(self):
        for legs in (["walk 1"] * 60, write_route(Route(*full_legs())).split(" then ")):
            text = " then ".join(legs)
            words = len(text.split(" "))
            self.assertEqual(len(read_route(text)), 60)
            self.assertEqual(self.agree(text + " then"), words)
            for more in (" then walk 1", " then stop 1 from 0", " then then", " walk 1", " ", "\n walk", " x"):
                self.assertEqual(self.agree(text + more), words - (more[0] == "\n"))
            self.assertEqual(len(read_route(" then ".join(legs[:-1]))), 59)
            self.assertEqual(self.agree(" then ".join(legs[:-1]) + " then"), words - len(legs[-1].split(" ")))

    def test_texts_of_four_thousand_characters(self):
        self.assertEqual(wrong(read_route, " " * 4000), 0)
        self.assertEqual(wrong(read_route, "walk " + "7" * 3995), 1)
        self.assertEqual(wrong(read_route, "\n" * 4000), 0)
        self.assertEqual(wrong(read_route, "walk 7 " * 571), 2)
        self.assertEqual(wrong(read_wishes, "0>1+" + "2" * 3996), 0)
        self.assertEqual(wrong(read_wishes, "0>0+0 " * 660), 80)


class Wishes(unittest.TestCase):
    def agree(self, text):
        expected = texts_by_hand.wrong_in_wishes(text)
        self.assertEqual(wrong(read_wishes, text), expected, repr(text))
        if expected is None:
            self.assertEqual(write_wishes(read_wishes(text)), text)
        return expected

    def test_known_texts(self):
        self.assertEqual(write_wishes([]), "-")
        self.assertEqual(write_wishes([(0, 1, 4), (39, 10, 0)]), "0>1+4 39>10+0")
        self.assertEqual(read_wishes("-"), [])
        self.assertEqual(read_wishes("0>1+4 39>10+0"), [(0, 1, 4), (39, 10, 0)])
        self.assertEqual(read_wishes(text="0>0+0"), [(0, 0, 0)])
        self.assertEqual(write_wishes(wishes=[(3, 3, 3)]), "3>3+3")

    def test_read_after_write(self):
        for wishes in WISHES:
            again = read_wishes(write_wishes(wishes))
            self.assertIs(type(again), list)
            self.assertEqual(again, wishes)
            self.assertTrue(all(type(row) is tuple for row in again))
            self.assertTrue(all(type(part) is int for row in again for part in row))

    def test_known_words_that_cannot_stand(self):
        for text, word in (("", 0), (" ", 0), ("- ", 1), (" -", 0), ("--", 0), ("- -", 1), ("-\n", 0), ("\n-", 0),
                           ("- 0>1+2", 1), ("0>1+2 -", 1), ("0>1+2 - 0>1+2", 1), ("0>1+2 ", 1), (" 0>1+2", 0),
                           ("0>1+2  0>1+2", 1), ("0>1+2\n", 0), ("0>1+2\n0>1+2", 0), ("0>1+2 0>1+2\n", 1),
                           ("40>1+2", 0), ("1>40+2", 0), ("0>1+2 40>1+2", 1), ("00>1+2", 0), ("01>1+2", 0),
                           ("0>01+2", 0), ("0>1+02", 0), ("0>1+00", 0), ("-0>1+2", 0), ("0>-1+2", 0), ("0>1+-2", 0),
                           ("0>1", 0), ("0+1", 0), ("0", 0), (">1+2", 0), ("0>+2", 0), ("0>1+", 0), (">+", 0),
                           ("0>>1+2", 0), ("0>1++2", 0), ("0+1>2", 0), ("0>1>2", 0), ("0+1+2", 0), ("0>1+2+3", 0),
                           ("0>1+2>3", 0), ("0 > 1 + 2", 0), ("0>1+ 2", 0), ("0>1+1_0", 0), ("0>1+2,", 0),
                           ("walk 7", 0), ("100>1+2", 0), ("0>100+2", 0)):
            self.assertEqual(wrong(read_wishes, text), word, repr(text))
            self.assertEqual(self.agree(text), word)

    def test_lines_from_0_to_39(self):
        for i, j in itertools.product((0, 1, 9, 10, 38, 39), (0, 5, 39)):
            self.assertEqual(read_wishes(f"{i}>{j}+7"), [(i, j, 7)])
        for i, j in ((40, 0), (0, 40), (41, 41), (99, 3), (3, 400), (10 ** 29, 0), (0, 10 ** 59)):
            self.assertEqual(self.agree(f"{i}>{j}+7"), 0)

    def test_walks_of_thirty_and_more_digits(self):
        for digits in (29, 30, 31, 60):
            for walk in ("9" * digits, "1" + "0" * (digits - 1)):
                self.assertEqual(self.agree(f"0>1+{walk}"), None if digits <= 30 else 0)
                self.assertEqual(self.agree(f"0>1+3 0>1+{walk} x"), 2 if digits <= 30 else 1)

    def test_eighty_wishes(self):
        for many in (1, 79, 80, 81, 82, 160):
            text = " ".join(["3>4+5"] * many)
            self.assertEqual(self.agree(text), None if many <= 80 else 80)
            if many <= 80:
                self.assertEqual(read_wishes(text), [(3, 4, 5)] * many)
        eighty = " ".join(["3>4+5"] * 80)
        for more in (" -", " x", " ", " 40>4+5", "  "):
            self.assertEqual(self.agree(eighty + more), 80)

    def test_changed_texts(self):
        odd_words = texts_by_hand.ODD_WORDS + ("1>2+3", "1>2", "2+3", "1>2+", "1>2-3", "1>2+3\n", "->1+2", "1<2+3",
                                               "1>2 +3", "39>1+0", "1>39+0", "1>2+03", "1>2+3+", "1>2+3>")
        words = {}
        for text in ("-", "0>1+4", "0>1+4 39>10+0", "9>9+9 10>11+12 0>0+0 38>39+" + "9" * 30):
            for changed in texts_by_hand.changed_texts(text, odd_words):
                word = self.agree(changed)
                words[word] = words.get(word, 0) + 1
        self.assertGreater(words[None], 50)
        self.assertEqual(set(words), {None, 0, 1, 2, 3, 4})

    def test_changed_signs(self):
        for text in ("0>1+4", "10>39+25"):
            for place in range(len(text) + 1):
                for sign in "0123456789+->x \n_<.":
                    self.agree(text[:place] + sign + text[place:])
                    self.agree(text[:place] + sign + text[place + 1:])
                    self.agree("0>0+0 " + text[:place] + sign + text[place:])
                self.agree(text[:place] + text[place + 1:])

    def test_what_is_no_list_of_wishes(self):
        odd_lists = [(), ((0, 1, 2),), [[0, 1, 2]], [(0, 1)], [(0, 1, 2, 3)], [(0, 1, -2)], [(-1, 1, 2)],
                     [(0, True, 2)], [("0", 1, 2)], [(0, 1, None)], [(0, 1, 2), 5], {"0": 1}]
        for odd in odd_lists + [odd for odd in by_hand.any_objects() if odd != []]:
            with self.subTest(odd=odd):
                self.assertIs(raised(lambda: write_wishes(odd)), InvalidWishes)


class Rules(unittest.TestCase):
    def test_arguments_stay_and_results_are_new(self):
        wishes = [(0, 1, 4), (1, 0, 4)]
        self.assertEqual(write_wishes(wishes), write_wishes(wishes))
        self.assertEqual(wishes, [(0, 1, 4), (1, 0, 4)])
        for text in ("-", "0>1+4"):
            taken = read_wishes(text)
            self.assertIsNot(taken, read_wishes(text))
            taken.append((3, 3, 3))
            self.assertNotIn((3, 3, 3), read_wishes(text))
        route = Route(Walk(4), Stop(15, 3))
        self.assertEqual(write_route(route), write_route(route))
        self.assertEqual([leg.text() for leg in route.legs], ["walk 4", "stop 15 from 3"])
        self.assertIsNot(read_route("walk 7"), read_route("walk 7"))

    def test_more_digits_than_can_be_read(self):
        # Nothing is refused for its length when it is written.
        self.assertEqual(write_route(Route(Walk(10 ** 30))), "walk 1" + "0" * 30)
        self.assertEqual(write_wishes([(0, 1, 10 ** 30)]), "0>1+1" + "0" * 30)


if __name__ == "__main__":
    unittest.main()
