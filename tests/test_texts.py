"""Texts: rigs and pairs written, and read again; all else refused."""

import copy
import itertools
import random
import re
import unittest

from stayfast.errors import NoText
from stayfast.rigs import is_rig
from stayfast.texts import pairs_text, read_pairs, read_rig, rig_text
from tests.anything import anythings, nested
from tests.drawn import HUGE, drawn_pairs, pairs_of
from tests.rigged import KINDS, SIX_STAYS, drawn_rigs, largest_rigs

POINT = ((1, ()), (), (), ())
RIG = ((3, ((0, 1), (0, 2), (1, 2))), KINDS, ((0, 0, 1), (0, 1, 0)), ((1, -10, 0), (2, -3, 99)))
TEXT = "joints 3\nbar 0 1\nrope 0 2\nprop 1 2\nhold 0 0 1\nhold 0 1 0\nwall 1 -10 0\nwall 2 -3 99"
NUMBER = "(?:0|-?[1-9][0-9]{0,39})"


def second_rig(text):
    """The rig that the text is written of, by the document's words, or None."""
    bars = f"(\n(bar|rope|prop)( {NUMBER}){{2}})*"
    if not re.fullmatch(f"joints {NUMBER}{bars}(\nhold( {NUMBER}){{3}})*(\nwall( {NUMBER}){{3}})*", text):
        return None
    lines = [line.split(" ") for line in text.split("\n")]
    rows = [(line[0], tuple([int(word) for word in line[1:]])) for line in lines]
    bars = [row for row in rows if row[0] in KINDS]
    frame = (rows[0][1][0], tuple([numbers for _, numbers in bars]))
    stays = [tuple([numbers for word, numbers in rows if word == stay]) for stay in ("hold", "wall")]
    rig = (frame, tuple([word for word, _ in bars]), *stays)
    return rig if is_rig(rig) else None


def second_pairs(text):
    """The pairs that the text is written of, by the document's words, or None."""
    if text == "":
        return ()
    if not re.fullmatch(f"{NUMBER},{NUMBER}( {NUMBER},{NUMBER})*", text):
        return None
    return tuple([tuple([int(number) for number in word.split(",")]) for word in text.split(" ")])


def with_other_signs(text, signs):
    """The text with a sign left out, put in, twice, or another one, at each place."""
    for at in range(len(text) + 1):
        for sign in signs:
            yield text[:at] + sign + text[at:]
            yield text[:at] + sign + text[at + 1:]
        yield text[:at] + text[at + 1:]
        yield text[:at] + text[at:at + 1] + text[at:]
        yield text[:at]
        yield text[at:]


def with_other_parts(text, between):
    """The text with its lines, or its words, left out, twice, in another order."""
    parts = text.split(between)
    for at in range(len(parts)):
        yield between.join(parts[:at] + parts[at + 1:])
        yield between.join(parts[:at + 1] + parts[at:])
        yield between.join(parts[:at] + [""] + parts[at:])
        yield between.join(parts[:at] + parts[at:][::-1])
        for other in range(at):
            turned = list(parts)
            turned[at], turned[other] = turned[other], turned[at]
            yield between.join(turned)


class RigText(unittest.TestCase):
    def test_by_hand(self):
        self.assertEqual(rig_text(RIG), TEXT)
        self.assertEqual(rig_text(POINT), "joints 1")
        self.assertEqual(rig_text(((6, ()), (), (), ((5, -99, 99),))), "joints 6\nwall 5 -99 99")
        self.assertEqual(rig_text(((2, ((0, 1),)), ("prop",), (), ())), "joints 2\nprop 0 1")
        self.assertEqual(rig_text(((1, ()), (), SIX_STAYS, ())),
                         "joints 1\nhold 0 0 1\nhold 0 1 1\nhold 0 2 1\nhold 0 3 1\nhold 0 4 1\nhold 0 5 1")

    def test_the_most_there_may_be(self):
        rig = ((6, pairs_of(6)), KINDS * 5, SIX_STAYS, SIX_STAYS)
        self.assertEqual(rig_text(rig).count("\n"), 27)

    def test_what_was_handed_in_stays(self):
        before = copy.deepcopy(RIG)
        self.assertEqual(rig_text(rig=RIG), TEXT)
        self.assertEqual(RIG, before)
        self.assertIs(type(rig_text(RIG)), str)


class ReadRig(unittest.TestCase):
    def refused(self, thing):
        with self.assertRaises(NoText) as caught:
            read_rig(thing)
        self.assertIs(type(caught.exception), NoText)

    def alike(self, text):
        """The text is read, or refused, as by the second reckoning; tell whether it is read."""
        rig = second_rig(text)
        if rig is None:
            self.refused(text)
            return False
        told = read_rig(text)
        self.assertEqual(told, rig, text)
        self.assertEqual(rig_text(told), text)
        return True

    def test_by_hand(self):
        self.assertEqual(read_rig(TEXT), RIG)
        self.assertEqual(read_rig("joints 1"), POINT)
        self.assertEqual(read_rig(text="joints 1"), POINT)

    def test_what_is_written_is_read_to_the_same(self):
        for rig, _ in drawn_rigs(130, 200) + largest_rigs(130, 20):
            self.assertEqual(read_rig(rig_text(rig)), rig)
            self.assertTrue(self.alike(rig_text(rig)))

    def test_signs_put_in_left_out_twice_and_others(self):
        counts = [0, 0]
        for text in with_other_signs(TEXT, " \n-+0129,abprw~\t"):
            counts[self.alike(text)] += 1
        self.assertGreater(min(counts), 20)

    def test_lines_and_words_put_in_left_out_twice_elsewhere(self):
        for rig, _ in [(RIG, None), *drawn_rigs(131, 12)]:
            for between in ("\n", " "):
                for text in with_other_parts(rig_text(rig), between):
                    self.alike(text)

    def test_numbers(self):
        for number in ("0", "00", "01", "+1", "-0", "-1", " 1", "1 ", "1.0", "1e1", "1_0", "0x1", "7", "", "-", "--1",
                       "one", "1" * 40, "1" * 41, "1" * 4000, "9" * 5000, "\u0661", "\u00b9", "\uff11", "1\u00a0",
                       "True", "None"):
            self.refused(f"joints {number}")
            self.alike(f"joints 3\nbar 0 {number}")
            self.alike(f"joints 3\nhold {number} 1 1")
            self.alike(f"joints 3\nwall 1 {number} 1")
            self.alike(f"joints 3\nwall 1 1 {number}")

    def test_what_is_no_rig(self):
        for text in ("joints 7", "joints 0", "joints 2\nbar 1 0", "joints 2\nbar 0 2", "joints 2\nbar 1 1",
                     "joints 1\nhold 0 0 0", "joints 1\nhold 0 100 0", "joints 1\nwall 1 1 0",
                     "joints 2\nbar 0 1\nrope 0 1", "joints 1\nhold 0 1 0\nhold 0 0 1", "joints 3\nbar 0 2\nbar 0 1"):
            self.refused(text)
        stays = [f"\nhold 0 {at} 1" for at in range(7)]
        self.assertEqual(read_rig("joints 1" + "".join(stays[:6])), ((1, ()), (), SIX_STAYS, ()))
        self.refused("joints 1" + "".join(stays))

    def test_the_order_of_lines(self):
        lines = ("rope 0 1", "hold 0 1 0", "wall 0 1 0")
        for order in itertools.permutations(lines):
            text = "\n".join(["joints 2", *order])
            self.assertIs(self.alike(text), order == lines)
        for order in itertools.permutations(("joints 2", *lines)):
            self.alike("\n".join(order))

    def test_ends_of_lines(self):
        for text in ("", "\n", " ", "joints", "joints ", "joints 1\n", "\njoints 1", "joints 1\n\n", "joints 1 ",
                     " joints 1", "joints  1", "joints 1 1", "joints 1\r\n", "joints 2\r\nbar 0 1", "joints\n1",
                     "Joints 1", "joint 1", "joints 2\nBar 0 1", "joints 2\nbars 0 1", "joints 2\nbar 0 1 ",
                     "joints 2\nbar 0 1 1", "joints 2\nbar 0", "joints 2\nbar", "joints 1\nhold 0 1",
                     "joints 2 bar 0 1", "joints 1\nhold 0 1 1 1", "joints 2\njoints 2", "bar 0 1",
                     "joints 2\nbar 0 1\nbar 0 1",
                     "joints\t1", "joints 2\nbar\t0\t1", "hold 1", "bar 1\nbar 0 1"):
            self.refused(text)

    def test_anything(self):
        for thing in anythings():
            self.refused(thing)
        for thing in (RIG, [TEXT], (TEXT,), TEXT.split("\n"), nested(tuple, 10), b"joints 1", 1, True):
            self.refused(thing)


class Pairs(unittest.TestCase):
    def refused(self, thing):
        with self.assertRaises(NoText) as caught:
            read_pairs(thing)
        self.assertIs(type(caught.exception), NoText)

    def alike(self, text):
        """The text is read, or refused, as by the second reckoning; tell whether it is read."""
        pairs = second_pairs(text)
        if pairs is None:
            self.refused(text)
            return False
        told = read_pairs(text)
        self.assertEqual(told, pairs, text)
        self.assertEqual(pairs_text(told), text)
        return True

    def test_by_hand(self):
        self.assertEqual(pairs_text(((0, 0), (-5, 12), (999, -999))), "0,0 -5,12 999,-999")
        self.assertEqual(read_pairs("0,0 -5,12 999,-999"), ((0, 0), (-5, 12), (999, -999)))
        self.assertEqual(pairs_text(((7, 8),)), "7,8")
        self.assertEqual(pairs_text(pairs=()), "")
        self.assertEqual(read_pairs(text=""), ())
        self.assertEqual(pairs_text(((HUGE, -HUGE),)), f"{HUGE},-{HUGE}")

    def test_what_is_written_is_read_to_the_same(self):
        draw = random.Random(132)
        for many, far in itertools.product(range(1, 7), (1, 999, 10**40 - 1)):
            pairs = drawn_pairs(draw, many, far)
            told = read_pairs(pairs_text(pairs))
            self.assertEqual(told, pairs)
            self.assertEqual({type(told), *[type(pair) for pair in told]}, {tuple})
            self.assertEqual({type(number) for pair in told for number in pair}, {int})

    def test_forty_and_forty_one_figures(self):
        most = 10**40 - 1
        for x, y in itertools.product((most, -most, 0), repeat=2):
            self.assertEqual(read_pairs(f"{x},{y}"), ((x, y),))
        for more in (10**40, -10**40, 10**41, HUGE, -HUGE):
            for text in (f"{more},0", f"0,{more}", f"0,0 {more},0", f"1,1 0,{more} 2,2"):
                self.refused(text)

    def test_numbers(self):
        for number in ("0", "5", "-5", "00", "05", "+5", "-0", "-05", " 5", "5 ", "5.0", "5e1", "5_0", "0x5", "", "-",
                       "--5", "a", "1" * 40, "-" + "1" * 40, "1" * 41, "-" + "1" * 41, "9" * 4000, "9" * 5000,
                       "\u0661", "\u00b9"):
            self.alike(f"{number},1")
            self.alike(f"1,{number}")
            self.alike(f"1,1 {number},1")
            self.alike(f"1,{number} 1,1")

    def test_signs_put_in_left_out_twice_and_others(self):
        counts = [0, 0]
        for text in with_other_signs("0,10 -5,0 20,-9", " ,-+0129\na~\t."):
            counts[self.alike(text)] += 1
        self.assertGreater(min(counts), 20)

    def test_words_put_in_left_out_twice_elsewhere(self):
        for between in (" ", ","):
            for text in with_other_parts("0,10 -5,0 20,-9", between):
                self.alike(text)

    def test_blanks_and_ends_of_lines(self):
        for text in (" ", "  ", "\n", "1,2 ", " 1,2", "1,2  3,4", "1,2\n", "\n1,2", "1,2\n3,4", "1, 2", "1 ,2", "1,2,3",
                     "1", ",", "1,", ",1", "1,2 3", "(1,2)", "1;2", "1,2\t3,4", "1,2,", "1,2 , 3,4"):
            self.refused(text)

    def test_many_pairs(self):
        pairs = tuple([(at, -at) for at in range(400)])
        self.assertEqual(read_pairs(pairs_text(pairs)), pairs)

    def test_anything(self):
        for thing in anythings():
            if thing != "":
                self.refused(thing)
        for thing in (((1, 2),), ["1,2"], ("1,2",), nested(list, 10), b"1,2", b""):
            self.refused(thing)

    def test_what_was_handed_in_stays(self):
        pairs = ((1, 2), (3, 4))
        pairs_text(pairs)
        self.assertEqual(pairs, ((1, 2), (3, 4)))


if __name__ == "__main__":
    unittest.main()
