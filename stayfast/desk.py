"""A desk: a yard that is told lines, and answers with texts."""

from stayfast.errors import NoLine
from stayfast.texts import number_of
from stayfast.yards import Yard

MOST_FIGURES = 3
# What stands behind the first word of a line, in one of these ways: w for a word, n for a number.
LINES = {
    "put": ("wnn",), "shift": ("wnn",), "take": ("w",), "weigh": ("wnn",), "tie": ("ww", "wwwn"), "untie": ("ww",),
    "hold": ("wnn",), "wall": ("wnn",), "free": ("w",), "back": ("",), "again": ("",), "locked": ("",),
    "stands": ("",), "often": ("",), "moved": ("",), "yard": ("",),
}


def back_told(yard):
    """Take back what was done last."""
    yard.back()
    return "ok"


def again_told(yard):
    """Do again what was taken back last."""
    yard.again()
    return "ok"


def yes_or_no(truth):
    """Tell the truth as a text."""
    return "yes" if truth else "no"


def locked_told(yard):
    """Tell whether the yard is locked."""
    return yes_or_no(yard.is_locked())


def stands_told(yard):
    """Tell whether the yard's load stands."""
    return yes_or_no(yard.stands())


def often_told(yard):
    """Tell how often the yard's load is borne."""
    told = yard.often()
    if told is None:
        return "ever"
    top, bottom = told
    return f"{top}/{bottom}"


def moved_told(yard):
    """Tell the names of the joints that are moved."""
    names = yard.moved()
    return " ".join(names) if len(names) > 0 else "none"


def yard_told(yard):
    """Tell the yard's text."""
    return str(yard) if len(yard) > 0 else "none"


ANSWERS = {
    "back": back_told, "again": again_told, "locked": locked_told, "stands": stands_told, "often": often_told,
    "moved": moved_told, "yard": yard_told,
}


def thing_by(sign, word):
    """Tell the number, or the word, or None where it is none."""
    if sign == "n":
        return number_of(word, MOST_FIGURES)
    return word if word != "" else None


def read_line(line):
    """Tell the first word of the line, and a list of what stands behind it."""
    if not isinstance(line, str):
        raise NoLine("this is no text")
    # Blanks alone stand between words: any other sign, a line end too, is part of a word.
    word, *others = line.split(" ")
    for way in LINES.get(word, ()):
        things = [thing_by(sign, other) for sign, other in zip(way, others)]
        if len(way) == len(others) and None not in things:
            return (word, things)
    raise NoLine("this is none of the lines that a desk is told")


class Desk:
    """A desk, its yard at first without joints."""

    def __init__(self):
        self.yard = Yard()

    def say(self, line):
        """Do what the line says, and tell the answer."""
        word, things = read_line(line)
        if word in ANSWERS:
            answer = ANSWERS[word]
            return answer(self.yard)
        if word == "tie" and len(things) == 2:
            one, other = things
            self.yard.tie(one, other)
        else:
            self.yard.do(word, things)
        return "ok"
