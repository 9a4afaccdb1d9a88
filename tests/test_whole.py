"""What the document promises over all modules together, and that its interface is there as written."""

import importlib
import inspect
import itertools
import math
import random
import unittest
from fractions import Fraction

from stayfast.desk import Desk
from stayfast.frames import joined
from stayfast.limits import giving, often, shows, within
from stayfast.loads import borne, falling, stands
from stayfast.locks import is_locked, loosening, taut
from stayfast.motions import fast_paper, fast_shown, is_fast, moves, moving
from stayfast.rigs import comes_to, goes, is_force
from stayfast.texts import pairs_text, read_pairs, read_rig, rig_text
from stayfast.weights import balances, needed, rank, sound
from stayfast.yards import Yard
from tests.drawn import drawn_pairs
from tests.rigged import (
    beside, drawn_force, drawn_limits, drawn_loads, drawn_rigs, largest_rigs, like_rigs,
    pairs_numbered_otherwise, rig_numbered_otherwise, so_often, turned_about,
)

INTERFACE = {
    "frames": {
        "is_frame": "thing", "are_spots": "frame thing", "joined": "frame joint", "without": "frame one other",
        "with_bar": "frame one other",
    },
    "motions": {
        "grows": "spots motion one other", "moves": "frame spots thing", "is_stiff": "spots motion",
        "is_fast": "frame spots", "moving": "frame spots", "fast_paper": "frame spots",
        "fast_shown": "frame spots paper",
    },
    "weights": {
        "balance": "frame spots thing", "sound": "frame spots", "rank": "frame spots", "balances": "frame spots",
        "needed": "frame spots",
    },
    "rigs": {
        "is_rig": "thing", "goes": "rig spots thing", "is_force": "rig thing", "comes_to": "rig spots force",
    },
    "loads": {
        "work": "load motion", "stands": "rig spots load", "borne": "rig spots load", "falling": "rig spots load",
        "bears": "rig spots load thing",
    },
    "locks": {"is_locked": "rig spots", "taut": "rig spots", "loosening": "rig spots"},
    "limits": {
        "often": "rig spots load limits", "within": "rig spots load limits", "giving": "rig spots load limits",
        "is_within": "rig spots load limits thing", "shows": "rig spots load limits thing",
    },
    "texts": {"rig_text": "rig", "pairs_text": "pairs", "read_rig": "text", "read_pairs": "text"},
}
METHODS = {
    "put": "name x y", "shift": "name x y", "take": "name", "weigh": "name x y", "tie": "one other kind limit",
    "untie": "one other", "hold": "name a b", "wall": "name a b", "free": "name", "together": "deeds", "back": "",
    "again": "", "names": "", "log": "", "moved": "", "rig": "", "spots": "", "load": "", "limits": "",
    "is_locked": "", "stands": "", "often": "",
}


def drawn_cases(seed, count):
    """Drawn rigs with spots, a load and limits."""
    draw = random.Random(seed)
    cases = []
    for rig, spots in drawn_rigs(seed, count):
        load = draw.choice(drawn_loads(draw, rig, spots))
        cases.append((rig, spots, load, drawn_limits(draw, rig)))
    return cases


def as_number(told):
    return math.inf if told is None else Fraction(*told)


def told_of(rig, spots, load, limits):
    """What is told of a rig that doesn't hang on where it lies, or how its joints are numbered."""
    frame = rig[0]
    return (
        is_fast(frame, spots), moving(frame, spots) is None, fast_paper(frame, spots) is None, rank(frame, spots),
        len(sound(frame, spots)), len(balances(frame, spots)), len(needed(frame, spots)),
        stands(rig, spots, load), borne(rig, spots, load) is None, falling(rig, spots, load) is None,
        is_locked(rig, spots), taut(rig, spots) is None, loosening(rig, spots) is None,
        often(rig, spots, load, limits), within(rig, spots, load, limits) is None,
        giving(rig, spots, load, limits) is None,
    )


class Interface(unittest.TestCase):
    def test_functions(self):
        for module, functions in INTERFACE.items():
            found = importlib.import_module(f"stayfast.{module}")
            for name, parameters in functions.items():
                function = getattr(found, name)
                self.assertEqual(list(inspect.signature(function).parameters), parameters.split(), name)
                self.assertEqual(function.__module__, f"stayfast.{module}")
        self.assertEqual(importlib.import_module("stayfast.frames").JOINTS, 6)

    def test_yard(self):
        for name, parameters in METHODS.items():
            signature = inspect.signature(vars(Yard)[name])
            self.assertEqual(list(signature.parameters)[1:], parameters.split(), name)
        tie = inspect.signature(Yard.tie).parameters
        self.assertEqual((tie["kind"].default, tie["limit"].default), ("bar", 100))
        for name in ("kind", "limit"):
            self.assertIs(tie[name].kind, inspect.Parameter.KEYWORD_ONLY)
        self.assertEqual(list(inspect.signature(Yard).parameters), [])

    def test_desk(self):
        self.assertEqual(list(inspect.signature(vars(Desk)["say"]).parameters)[1:], ["line"])
        self.assertEqual(list(inspect.signature(Desk).parameters), [])


class NeverBoth(unittest.TestCase):
    def test_on_drawn_rigs(self):
        for rig, spots, load, limits in drawn_cases(140, 150) + [
                (rig, spots, load, drawn_limits(random.Random(140), rig))
                for rig, spots in largest_rigs(140, 4) for load in drawn_loads(random.Random(141), rig, spots)[:4]]:
            frame = rig[0]
            fast, paper, motion = is_fast(frame, spots), fast_paper(frame, spots), moving(frame, spots)
            self.assertEqual((fast, not fast), (paper is not None, motion is not None))
            self.assertIs(fast_shown(frame, spots, paper), fast)
            self.assertIs(moves(frame, spots, motion), not fast)
            stood = stands(rig, spots, load)
            self.assertEqual((stood, not stood),
                             (borne(rig, spots, load) is not None, falling(rig, spots, load) is not None))
            locked = is_locked(rig, spots)
            self.assertIs(loosening(rig, spots) is None, locked)
            if locked:
                self.assertIsNotNone(taut(rig, spots))
                self.assertIs(stood, True)
            told = often(rig, spots, load, limits)
            if told is not None and told[0] > 0:
                self.assertIs(stood, True)
            if told is None:
                self.assertIs(stood, True)


class ToldAlike(unittest.TestCase):
    def test_put_elsewhere_turned_mirrored(self):
        for rig, far, load, limits in drawn_cases(142, 60):
            spots = tuple([(x // 11, y // 11) for x, y in far])
            told = told_of(rig, spots, load, limits)
            elsewhere, greater, *others = like_rigs(rig, spots, load)
            for like in (elsewhere, *others):
                self.assertEqual(told_of(*like, limits), told)
            ten = told_of(*greater, limits)
            self.assertEqual(ten[:13] + ten[14:], told[:13] + told[14:])
            # Pushes and shoves are as they were, weights bear ten times as much by what is ten times as great.
            self.assertEqual(as_number(ten[13]), 10 * as_number(told[13]) if told[13] != (0, 1) else 0)

    def test_numbered_otherwise(self):
        draw = random.Random(143)
        for rig, spots, load, limits in drawn_cases(143, 80):
            order = draw.sample(range(len(spots)), len(spots))
            renamed, was = rig_numbered_otherwise(rig, order)
            others = pairs_numbered_otherwise(spots, order), pairs_numbered_otherwise(load, order)
            told = told_of(renamed, *others, tuple([limits[at] for at in was]))
            self.assertEqual(told, told_of(rig, spots, load, limits))

    def test_ropes_for_props_walls_turned_round_loads_turned_about(self):
        draw = random.Random(144)
        count = 0
        for rig, spots, load, limits in drawn_cases(144, 120):
            about = turned_about(rig)
            self.assertEqual(told_of(about, spots, so_often(-1, load), limits), told_of(rig, spots, load, limits))
            for motion in (falling(rig, spots, load), loosening(rig, spots), drawn_pairs(draw, len(spots), 1)):
                if motion is not None:
                    self.assertIs(goes(about, spots, so_often(-1, motion)), goes(rig, spots, motion))
                    self.assertEqual(shows(about, spots, so_often(-1, load), limits, so_often(-1, motion)),
                                     shows(rig, spots, load, limits, motion))
                    count += goes(rig, spots, motion)
            weights, pushes, shoves = force = drawn_force(draw, rig, 9)
            # Walls stand in another order once they are turned round.
            ways = sorted([((joint, -a, -b), shove) for (joint, a, b), shove in zip(rig[3], shoves)])
            opposite = (tuple([-weight for weight in weights]), tuple([-push for push in pushes]),
                        tuple([shove for _, shove in ways]))
            self.assertIs(is_force(about, opposite), True)
            self.assertEqual(comes_to(about, spots, opposite), so_often(-1, comes_to(rig, spots, force)))
        self.assertGreater(count, 60)


class Beside(unittest.TestCase):
    def test_two_rigs_as_one(self):
        cases = [case for case in drawn_cases(145, 240) if case[0][0][0] <= 3]
        counts = {}
        for one, other in itertools.product(cases[:22], cases[22:44]):
            if len(one[0][2] + other[0][2]) > 6 or len(one[0][3] + other[0][3]) > 6:
                continue
            rig = beside(one[0], other[0])
            spots, load, limits = [one[at] + other[at] for at in (1, 2, 3)]
            both = (stands(*one[:3]), stands(*other[:3]))
            self.assertIs(stands(rig, spots, load), all(both))
            locked = (is_locked(*one[:2]), is_locked(*other[:2]))
            self.assertIs(is_locked(rig, spots), all(locked))
            least = min(as_number(often(*one)), as_number(often(*other)))
            self.assertEqual(as_number(often(rig, spots, load, limits)), least)
            counts[(*both, *locked)] = counts.get((*both, *locked), 0) + 1
        self.assertGreater(len(counts), 5)
        self.assertGreater(sum(counts.values()), 100)


class OneRig(unittest.TestCase):
    def test_two_yards_of_one_rig_by_words_and_by_texts(self):
        for rig, spots, load, limits in drawn_cases(146, 60):
            few = tuple([(x % 1000, y % 1000) for x, y in load])
            yard = yard_by(rig, spots, few, limits)
            self.assertEqual((yard.rig(), yard.spots(), yard.load(), yard.limits()), (rig, spots, few, limits))
            self.assertEqual(read_rig(rig_text(yard.rig())), rig)
            self.assertEqual(read_pairs(pairs_text(yard.spots())), spots)
            self.assertEqual(read_pairs(pairs_text(yard.load())), few)
            desk = desk_by(rig, spots, few, limits)
            self.assertEqual(desk.say("locked"), "yes" if is_locked(rig, spots) else "no")
            self.assertEqual(desk.say("stands"), "yes" if stands(rig, spots, few) else "no")
            told = often(rig, spots, few, limits)
            self.assertEqual(desk.say("often"), "ever" if told is None else f"{told[0]}/{told[1]}")
            self.assertEqual(desk.say("moved"), " ".join(yard.moved()) or "none")
            self.assertEqual(desk.say("yard"), str(yard))
            motion = falling(rig, spots, few) or loosening(rig, spots) or ()
            self.assertEqual(yard.moved(), ["abcdef"[at] for at, pair in enumerate(motion) if any(pair)])

    def test_the_largest_yards(self):
        for rig, spots in largest_rigs(147, 3):
            load, limits = drawn_pairs(random.Random(147), 6, 999), drawn_limits(random.Random(147), rig)
            yard = yard_by(rig, spots, load, limits)
            self.assertEqual((yard.rig(), yard.spots(), yard.load(), yard.limits()), (rig, spots, load, limits))
            self.assertIs(yard.is_locked(), is_locked(rig, spots))
            self.assertIs(yard.stands(), stands(rig, spots, load))
            self.assertEqual(yard.often(), often(rig, spots, load, limits))
            self.assertEqual(len(str(yard).split(" ")), 21)
            for _ in lines_by(rig, spots, load, limits):
                yard.back()
            self.assertTrue(yard == Yard())


def lines_by(rig, spots, load, limits):
    """The lines by which a desk comes to this rig."""
    (many, bars), kinds, holds, walls = rig
    lines = [f"put {'abcdef'[at]} {x} {y}" for at, (x, y) in enumerate(spots)]
    lines += [f"weigh {'abcdef'[at]} {x} {y}" for at, (x, y) in enumerate(load)]
    lines += [f"tie {'abcdef'[one]} {'abcdef'[other]} {kind} {limit}"
              for (one, other), kind, limit in zip(bars, kinds, limits)]
    lines += [f"hold {'abcdef'[joint]} {a} {b}" for joint, a, b in holds]
    return lines + [f"wall {'abcdef'[joint]} {a} {b}" for joint, a, b in walls]


def desk_by(*case):
    desk = Desk()
    for line in lines_by(*case):
        desk.say(line)
    return desk


def yard_by(*case):
    """A yard of this rig, its deeds done in one way or another."""
    deeds = []
    for line in lines_by(*case):
        word, *things = line.split(" ")
        deeds.append((word, *[int(thing) if thing.lstrip("-").isdigit() else thing for thing in things]))
    yard = Yard()
    half = len(deeds) // 2
    for deed in deeds[:half]:
        yard.together([deed])
    for deed in deeds[half:]:
        word, *things = deed
        if word == "tie":
            yard.tie(things[0], things[1], kind=things[2], limit=things[3])
        else:
            getattr(yard, word)(*things)
    return yard


class AskersOwn(unittest.TestCase):
    def test_told_lists(self):
        for rig, spots in drawn_rigs(148, 40):
            frame = rig[0]
            asks = (
                lambda: joined(frame, 0), lambda: fast_paper(frame, spots), lambda: balances(frame, spots),
                lambda: needed(frame, spots),
            )
            for ask in asks:
                told = ask()
                if told is not None:
                    self.assertIs(type(told), list)
                    kept = list(told)
                    told.append("x")
                    told.reverse()
                    self.assertEqual(ask(), kept)

    def test_kinds_of_what_is_told(self):
        for rig, spots, load, limits in drawn_cases(149, 40):
            for told in (is_fast(rig[0], spots), stands(rig, spots, load), is_locked(rig, spots)):
                self.assertIs(type(told), bool)
            for told in (borne(rig, spots, load), falling(rig, spots, load), taut(rig, spots), loosening(rig, spots),
                         often(rig, spots, load, limits), within(rig, spots, load, limits),
                         giving(rig, spots, load, limits), moving(rig[0], spots)):
                self.assertIn(type(told), (tuple, type(None)))


if __name__ == "__main__":
    unittest.main()
