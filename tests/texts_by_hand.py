"""Texts judged without the package's reading: whole texts by patterns, words by what could follow."""

import re

from onwardlines.lines import Line, Stop, Walk

NUMBER = "(0|[1-9][0-9]{0,29})"
LEGS = {re.compile(f"every {NUMBER} from {NUMBER} ride {NUMBER}"): Line,
        re.compile(f"walk {NUMBER}"): Walk,
        re.compile(f"stop {NUMBER} from {NUMBER}"): Stop}
WISH = re.compile(f"([0-9]|[1-3][0-9])>([0-9]|[1-3][0-9])[+]{NUMBER}")

# Whatever stands in a route that is not at its end, one of these ends it.
ENDS = ("", " 0", " ride 0", " 0 ride 0", " from 0", " from 0 ride 0", " 1 from 0", " 1 from 0 ride 0", " walk 0")

ODD_WORDS = ("", "then", "every", "walk", "stop", "from", "ride", "0", "1", "2", "3", "4", "6", "7", "12", "15", "00",
             "01", "007", "-0", "-1", "+1", "1_0", "1.0", "1,", "x", "Walk", "walks", "wal", "EVERY", "Then", "then\n",
             "walk\n", "5\n", "\n5", "\n", "1\n2", "-", "0x1", "9" * 29, "9" * 30, "1" + "0" * 29, "1" + "0" * 30,
             "9" * 31, "0" * 30, "0" * 31, "1" * 60, "0>1+2", "39>39+0", "40>0+0", "0>40+0", ">", "+", ">+",
             "[", "'1'", "every15", "walk7", "1e3", "five", "\\", "~", "!")


def numbers_of_leg(text):
    """The class and the numbers of a leg that this text writes, or None."""
    for pattern, kind in LEGS.items():
        found = pattern.fullmatch(text)
        if found:
            return kind, [int(number) for number in found.groups()]
    return None


def is_route_text(text):
    """Whether a whole text writes a route."""
    found = [numbers_of_leg(leg) for leg in text.split(" then ")]
    if None in found or len(found) > 60:
        return False
    timed = [numbers for kind, numbers in found if kind is not Walk]
    if not all(at < every for every, at, *_ in timed):
        return False
    headways = sorted(numbers[0] for numbers in timed)
    return all(great % small == 0 for small, great in zip(headways, headways[1:]))


def is_wishes_text(text):
    """Whether a whole text writes wishes."""
    words = text.split(" ")
    return text == "-" or len(words) <= 80 and all(WISH.fullmatch(word) for word in words)


def wrong_word(text, is_text, ends):
    """The number of the word that cannot stand in a text, or None if the text can be read."""
    if is_text(text):
        return None
    words = text.split(" ")
    for many in range(1, len(words) + 1):
        begun = " ".join(words[:many])
        if not any(is_text(begun + end) for end in ends):
            return many - 1
    return len(words)


def wrong_in_route(text):
    return wrong_word(text, is_route_text, ENDS)


def wrong_in_wishes(text):
    return wrong_word(text, is_wishes_text, ("",))


def changed_texts(text, odd_words):
    """Texts that differ from one by a word, a blank or a newline."""
    words = text.split(" ")
    for place, word in enumerate(words):
        before, after = words[:place], words[place + 1:]
        pairs = [before, before + after, before + [word, word] + after, before + [word + word] + after,
                 before + after[:1] + [word] + after[1:], before + [word[1:]] + after, before + [word[:-1]] + after,
                 before + ["", word] + after, before + [word + "\n"] + after, before + ["\n" + word] + after,
                 before + [word + "\n" + "".join(after[:1])] + after[1:], before + ["0" + word] + after]
        pairs.extend(before + [odd] + after for odd in odd_words)
        pairs.extend(before + [odd, word] + after for odd in odd_words)
        yield from (" ".join(pair) for pair in pairs)
    for odd in odd_words:
        yield text + " " + odd
    for begin, end in (("", " "), (" ", ""), (" ", " "), ("", "\n"), ("\n", ""), ("", "  "), ("", " \n"), ("\n ", "")):
        yield begin + text + end
