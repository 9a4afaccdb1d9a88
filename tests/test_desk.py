"""A desk: each line with its answer, what is no line, and what its yard refuses."""

import copy
import itertools
import unittest

from stayfast.desk import Desk
from stayfast.errors import (
    Full, Held, NoBar, NoJoint, NoKind, NoLimit, NoLine, NoName, NotHeld, NothingLeft, NoWay, Twice,
)
from stayfast.yards import Yard
from tests.anything import anythings, nested

DEEDS = (
    "put a 0 0", "put b 5 0", "put c 0 -3", "tie a b rope 3", "tie b c", "hold a 1 0", "hold a 0 1", "wall c -9 99",
    "weigh b 10 0", "shift c 7 -999", "untie c b", "free c", "take c",
)
QUESTIONS = ("locked", "stands", "often", "moved", "yard")
# At which places of a line any word may stand.
ANY_WORDS = {
    "put": (1,), "shift": (1,), "take": (1,), "weigh": (1,), "tie": (1, 2, 3), "untie": (1, 2), "hold": (1,),
    "wall": (1,), "free": (1,),
}
# Signs that Python itself parts words or lines at, and others that are in no name.
SIGNS = ("\n", "\r", "\t", "\v", "\f", "\x1c", "\x1d", "\x1e", "\x1f", "\x85", "\xa0", "\u2028", "\u3000", "\0", "%", "~")


def desk_of(lines):
    """A desk that was told these lines."""
    desk = Desk()
    for line in lines:
        desk.say(line)
    return desk


class Lines(unittest.TestCase):
    def say(self, desk, line, answer):
        told = desk.say(line)
        self.assertIs(type(told), str)
        self.assertEqual(told, answer, line)

    def test_a_new_desk(self):
        self.say(Desk(), "yard", "none")

    def test_each_line_with_its_answer(self):
        desk = Desk()
        for line in DEEDS[:9]:
            self.say(desk, line, "ok")
        self.say(desk, "yard", "a(0,0) b(5,0) c(0,-3) a-b:rope b-c:bar")
        for line in DEEDS[9:]:
            self.say(desk, line, "ok")
        self.say(desk, "yard", "a(0,0) b(5,0) a-b:rope")
        self.say(desk, "locked", "no")
        self.say(desk, "stands", "yes")
        self.say(desk, "often", "3/2")
        self.say(desk, "moved", "b")
        self.say(desk, "weigh b -10 0", "ok")
        self.say(desk, "stands", "no")
        self.say(desk, "often", "0/1")
        self.say(desk, "weigh b 0 0", "ok")
        self.say(desk, "often", "ever")
        self.say(desk, "hold b 1 0", "ok")
        self.say(desk, "hold b 0 1", "ok")
        self.say(desk, "locked", "yes")
        self.say(desk, "untie a b", "ok")
        self.say(desk, "locked", "yes")
        self.say(desk, "moved", "none")
        self.say(desk, "back", "ok")
        self.say(desk, "yard", "a(0,0) b(5,0) a-b:rope")
        self.say(desk, "again", "ok")
        self.say(desk, "yard", "a(0,0) b(5,0)")

    def test_several_names_are_moved(self):
        desk = desk_of(["put b 0 0", "put a 4 0", "put c 9 9", "tie a b", "weigh a 3 0"])
        self.say(desk, "moved", "a b")

    def test_to_the_very_first_and_again(self):
        desk = desk_of(DEEDS)
        for at in range(len(DEEDS) - 1, -1, -1):
            self.say(desk, "back", "ok")
            self.assertEqual(desk.say("yard"), desk_of(DEEDS[:at]).say("yard"))
        self.say(desk, "yard", "none")
        for at in range(len(DEEDS)):
            self.say(desk, "again", "ok")
            self.assertEqual(desk.say("yard"), desk_of(DEEDS[:at + 1]).say("yard"))

    def test_what_a_tie_has_where_nothing_is_said(self):
        joints = ["put a 0 0", "put b 1 0", "hold a 1 0", "hold a 0 1", "weigh b 1 0"]
        self.say(desk_of([*joints, "tie a b"]), "often", "100/1")
        self.say(desk_of([*joints, "tie a b bar 100"]), "often", "100/1")
        self.say(desk_of([*joints, "tie b a prop 100"]), "often", "0/1")
        self.say(desk_of([*joints, "tie b a rope 0"]), "often", "0/1")
        self.say(desk_of([*joints, "tie b a rope 999"]), "often", "999/1")
        self.say(desk_of([*joints, "tie a b"]), "yard", "a(0,0) b(1,0) a-b:bar")

    def test_numbers(self):
        for x, y in itertools.product((-999, -1, 0, 7, 42, 999), repeat=2):
            self.say(desk_of([f"put a {x} {y}"]), "yard", f"a({x},{y})")

    def test_the_yard_s_log_has_what_was_said(self):
        desk = desk_of([*DEEDS, "back", "again", *QUESTIONS])
        words = [line.split(" ")[0] for line in DEEDS] + ["back", "again"]
        self.assertEqual(desk.yard.log(), [(way, word) for word in words for way in ("in", "out")])
        self.assertIs(type(desk.yard), Yard)

    def test_two_desks_have_nothing_in_common(self):
        one, other = Desk(), Desk()
        one.say("put a 0 0")
        self.say(other, "yard", "none")

    def test_by_name(self):
        self.assertEqual(Desk().say(line="yard"), "none")
        self.assertIn("say", vars(Desk))


class NoLines(unittest.TestCase):
    def no(self, line):
        for desk in (Desk(), desk_of(DEEDS[:9])):
            before, log = copy.deepcopy(desk.yard), desk.yard.log()
            with self.assertRaises(NoLine) as caught:
                desk.say(line)
            self.assertIs(type(caught.exception), NoLine, line)
            self.assertTrue(desk.yard == before)
            self.assertEqual(desk.yard.log(), log)

    def test_a_word_more_or_fewer(self):
        for line in (*DEEDS, *QUESTIONS, "back", "again"):
            words = line.split(" ")
            for more in ("a", "0", "bar", "-5"):
                if words[0] != "tie":
                    self.no(f"{line} {more}")
            for many in range(len(words)):
                if (words[0], many) != ("tie", 3):
                    self.no(" ".join(words[:many]))
        for line in ("tie a", "tie a b rope", "tie a b rope 5 5", "tie a b 5", "tie a b 5 rope", "tie"):
            self.no(line)

    def test_two_blanks_and_blanks_ahead_or_behind(self):
        for line in (*DEEDS, *QUESTIONS, "back", "again"):
            self.no(" " + line)
            self.no(line + " ")
            self.no(line + "  ")
            for at in range(len(line)):
                if line[at] == " ":
                    self.no(line[:at] + " " + line[at:])

    def test_empty_words(self):
        for line in (*DEEDS, *QUESTIONS, "back", "again"):
            words = line.split(" ")
            for at in range(len(words)):
                self.no(" ".join(words[:at] + [""] + words[at + 1:]))

    def test_other_signs_in_first_words_and_numbers(self):
        for line in (*DEEDS, *QUESTIONS, "back", "again"):
            words = line.split(" ")
            for at, sign in itertools.product(range(len(words)), SIGNS):
                if at not in ANY_WORDS.get(words[0], ()):
                    for word in (sign, words[at] + sign, sign + words[at], words[at] + sign + words[at]):
                        self.no(" ".join([*words[:at], word, *words[at + 1:]]))

    def test_other_signs_instead_of_a_blank(self):
        for line in (*DEEDS, *QUESTIONS, "back", "again"):
            for at, sign in itertools.product(range(len(line)), SIGNS):
                if line[at] == " ":
                    self.no(line[:at] + sign + line[at + 1:])
            for sign in SIGNS:
                self.no(line.replace(" ", sign) + sign)

    def test_two_lines_are_none(self):
        for one, other in itertools.product((*DEEDS, *QUESTIONS, "back", "again"), ("put a 0 0", "free a", "take b")):
            self.no(one + "\n" + other)

    def test_words(self):
        for line in ("", " ", "  ", "\n", "Yard", "yards", "yar", "YARD", "fly", "together", "log", "names", "rig",
                     "ok", "none", "put", "do put a 0 0", "is_locked", "?", "~", "puta 0 0", "put,a,0,0",
                     "put\ta\t0\t0", "yard\t"):
            self.no(line)

    def test_numbers(self):
        wrong = ("1000", "-1000", "0000", "0999", "00", "01", "-0", "-01", "+1", "--1", "-", "1.0", "1e1", "1_0", "0x1",
                 "a", "one", "1,", "9" * 3000, "9" * 5000, "\u0661", "\u00b9", "\uff11", "True", "None")
        for number in wrong:
            for word in ("put", "shift", "weigh", "hold", "wall"):
                self.no(f"{word} a {number} 0")
                self.no(f"{word} a 0 {number}")
            self.no(f"tie a b rope {number}")

    def test_anything(self):
        for thing in anythings():
            self.no(thing)
        for thing in (["yard"], ("yard",), ("put", "a", 0, 0), [("put", "a", 0, 0)], nested(list, 10), 5, True):
            self.no(thing)


class Refused(unittest.TestCase):
    def refused(self, lines, line, error, **fields):
        desk = desk_of(lines)
        before, log = copy.deepcopy(desk.yard), desk.yard.log()
        with self.assertRaises(error) as caught:
            desk.say(line)
        self.assertIs(type(caught.exception), error)
        self.assertEqual(vars(caught.exception), fields)
        self.assertTrue(desk.yard == before)
        word = line.split(" ")[0]
        logged = [] if word in QUESTIONS else [("in", word), ("out", word)]
        self.assertEqual(desk.yard.log(), log + logged)

    def test_put(self):
        for name in ("A", "abcdefghi", "a1", "1", "-", "~", "a,b", "%", "\u00e4"):
            self.refused([], f"put {name} 0 0", NoName)
        self.refused(["put a 0 0"], "put a 1 1", Twice, name="a")
        six = [f"put {name} 0 0" for name in "abcdef"]
        self.refused(six, "put g 1 1", Full, many=6)

    def test_other_signs_in_names_and_kinds(self):
        for sign in SIGNS:
            for name in (sign, "a" + sign, sign + "a", "a" + sign + "b"):
                self.refused(DEEDS[:4], f"put {name} 1 2", NoName)
                for line in ("shift {} 0 0", "take {}", "weigh {} 0 0", "hold {} 1 0", "wall {} 1 0", "free {}",
                             "tie {} a", "tie a {}", "tie {} b rope 3", "tie a {} iron 3", "untie {} a", "untie b {}"):
                    self.refused(DEEDS[:4], line.format(name), NoJoint, name=name)
            for kind in (sign, "bar" + sign, sign + "rope"):
                self.refused(DEEDS[:3], f"tie a b {kind} 3", NoKind)

    def test_shift_take_weigh(self):
        for line in ("shift x 0 0", "take x", "weigh x 0 0", "free x", "hold x 0 0", "wall x 0 0"):
            self.refused(DEEDS[:3], line, NoJoint, name="x")
            self.refused([], line, NoJoint, name="x")

    def test_tie_and_untie(self):
        joints = DEEDS[:3]
        self.refused(joints, "tie x y", NoJoint, name="x")
        self.refused(joints, "tie a y iron 5", NoJoint, name="y")
        self.refused(joints, "tie a b iron 5", NoKind)
        self.refused(joints, "tie a b iron -5", NoKind)
        self.refused(joints, "tie a b 7 7", NoKind)
        self.refused(joints, "tie a b rope -1", NoLimit)
        self.refused(joints, "tie a a rope -999", NoLimit)
        self.refused(joints, "tie a a", NoBar, one="a", other="a")
        self.refused([*joints, "tie a b"], "tie b a rope 5", NoBar, one="b", other="a")
        self.refused([*joints, "tie a b"], "tie a b", NoBar, one="a", other="b")
        self.refused(joints, "untie x a", NoJoint, name="x")
        self.refused(joints, "untie a x", NoJoint, name="x")
        self.refused(joints, "untie b a", NoBar, one="b", other="a")

    def test_hold_wall_free(self):
        for word in ("hold", "wall"):
            for way in ("0 0", "100 0", "0 -100", "999 999"):
                self.refused(DEEDS[:3], f"{word} a {way}", NoWay)
            self.refused(["put a 0 0", f"{word} a 1 2"], f"{word} a 1 2", Held, name="a")
            six = [f"{word} a {at} 1" for at in range(6)]
            self.refused(["put a 0 0", *six], f"{word} a 9 9", Full, many=6)
            self.refused(["put a 0 0", *six], f"{word} a 0 1", Held, name="a")
        self.refused(DEEDS[:3], "free a", NotHeld, name="a")

    def test_back_and_again(self):
        self.refused([], "back", NothingLeft)
        self.refused([], "again", NothingLeft)
        self.refused(["put a 0 0"], "again", NothingLeft)
        self.refused(["put a 0 0", "back"], "back", NothingLeft)
        self.refused(["put a 0 0", "back", "put b 0 0"], "again", NothingLeft)

    def test_questions_of_a_yard_without_joints(self):
        for word in ("locked", "stands", "often", "moved"):
            self.refused([], word, NoJoint, name="")
            self.refused(["put a 0 0", "take a"], word, NoJoint, name="")

    def test_spots_and_loads_of_three_figures_are_never_refused(self):
        for number in ("-999", "999"):
            desk = desk_of([f"put a {number} {number}", f"weigh a {number} 0", f"shift a 0 {number}"])
            self.assertEqual(desk.say("yard"), f"a(0,{number})")


if __name__ == "__main__":
    unittest.main()
