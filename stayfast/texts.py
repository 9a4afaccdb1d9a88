"""Texts: rigs and pairs written, and read again."""

from stayfast.errors import NoText
from stayfast.rigs import KINDS, is_rig

FIGURES = "0123456789"
LONGEST_NUMBER = 40


def number_of(word, most):
    """Tell the number of at most so many figures that is so written, or None."""
    figures = word[1:] if word.startswith("-") else word
    if not 1 <= len(figures) <= most or not all([sign in FIGURES for sign in figures]):
        return None
    number = int(word)
    # A 0 ahead of other figures and a - ahead of 0 are never written.
    return number if str(number) == word else None


def line_of(word, numbers):
    """Tell the line of the word and the numbers."""
    return " ".join([word] + [str(number) for number in numbers])


def rig_text(rig):
    """Tell the rig as a text."""
    (many, bars), kinds, holds, walls = rig
    lines = [line_of("joints", (many,))] + [line_of(kind, bar) for kind, bar in zip(kinds, bars)]
    lines += [line_of("hold", stay) for stay in holds] + [line_of("wall", stay) for stay in walls]
    return "\n".join(lines)


def row_of(line):
    """Tell the line's first word, and a tuple of the numbers of the others, None for what is none."""
    word, *others = line.split(" ")
    return (word, tuple([number_of(other, LONGEST_NUMBER) for other in others]))


def rows_with(rows, words):
    """Tell what stands behind one of the words, for each row that begins with one."""
    return tuple([numbers for word, numbers in rows if word in words])


def rig_by(text):
    """Tell what the text can only be written of, if it is that of a rig."""
    (head, many), *rows = [row_of(line) for line in text.split("\n")]
    kinds = tuple([word for word, numbers in rows if word in KINDS])
    return ((*many, rows_with(rows, KINDS)), kinds, rows_with(rows, ("hold",)), rows_with(rows, ("wall",)))


def read_rig(text):
    """Tell the rig that the text is written of."""
    rig = rig_by(text) if isinstance(text, str) else None
    # What was left out in reading, or stands in another order, shows where the rig is written again.
    if not is_rig(rig) or rig_text(rig) != text:
        raise NoText("this is no text of a rig")
    return rig


def pairs_text(pairs):
    """Tell the pairs as a text."""
    return " ".join([f"{x},{y}" for x, y in pairs])


def pair_by(word):
    """Tell the pair that is so written, or None."""
    numbers = [number_of(part, LONGEST_NUMBER) for part in word.split(",")]
    return tuple(numbers) if len(numbers) == 2 and None not in numbers else None


def read_pairs(text):
    """Tell the tuple of pairs that the text is written of."""
    if not isinstance(text, str):
        raise NoText("this is no text")
    pairs = tuple([pair_by(word) for word in text.split(" ")]) if text != "" else ()
    if None in pairs:
        raise NoText("this is no text of pairs")
    return pairs
