"""The refusals: their families, their fields, their texts."""

import unittest

from stayfast import errors

FORMS = ("NoName", "NoSpot", "NoLoad", "NoKind", "NoLimit", "NoWay", "NoDeed", "NoText", "NoLine")
NOWS = ("NoBar", "NoJoint", "Twice", "Held", "NotHeld", "Full", "NothingLeft")
FIELDS = {
    "NoBar": ("one", "other"),
    "NoJoint": ("name",),
    "Twice": ("name",),
    "Held": ("name",),
    "NotHeld": ("name",),
    "Full": ("many",),
}
HUGE = 10**100 - 1


def made(name):
    """A refusal of that name, made as the interface tells."""
    kind = getattr(errors, name)
    if name == "NoBar":
        return kind(1, 2)
    if name == "Full":
        return kind(6)
    return kind("ab")


class Families(unittest.TestCase):
    def test_rig_error_is_a_value_error(self):
        self.assertEqual(errors.RigError.__bases__, (ValueError,))

    def test_families_stand_under_rig_error(self):
        self.assertEqual(errors.FormError.__bases__, (errors.RigError,))
        self.assertEqual(errors.NowError.__bases__, (errors.RigError,))

    def test_forms_stand_straight_under_form_error(self):
        for name in FORMS:
            with self.subTest(name=name):
                self.assertEqual(getattr(errors, name).__bases__, (errors.FormError,))

    def test_nows_stand_straight_under_now_error(self):
        for name in NOWS:
            with self.subTest(name=name):
                self.assertEqual(getattr(errors, name).__bases__, (errors.NowError,))

    def test_classes_bear_their_own_names(self):
        for name in FORMS + NOWS + ("RigError", "FormError", "NowError"):
            self.assertEqual(getattr(errors, name).__name__, name)

    def test_each_is_caught_by_its_own_classes_and_no_other(self):
        for name in FORMS + NOWS:
            family = "FormError" if name in FORMS else "NowError"
            own = {name, family, "RigError"}
            for listed in FORMS + NOWS + ("FormError", "NowError", "RigError"):
                with self.subTest(name=name, listed=listed):
                    self.assertIs(isinstance(made(name), getattr(errors, listed)), listed in own)
            self.assertIsInstance(made(name), ValueError)

    def test_each_can_be_raised_and_caught_by_all_its_classes(self):
        for name in FORMS + NOWS:
            family = errors.FormError if name in FORMS else errors.NowError
            for kind in (getattr(errors, name), family, errors.RigError, ValueError):
                with self.subTest(name=name, kind=kind), self.assertRaises(kind):
                    raise made(name)


class Fields(unittest.TestCase):
    def test_no_bar_has_both_in_the_order_handed_in(self):
        for one, other in ((0, 1), (1, 0), (3, 3), (HUGE, -HUGE), (-1, 7), ("ab", "c")):
            error = errors.NoBar(one, other)
            self.assertEqual((error.one, error.other), (one, other))

    def test_fields_may_be_handed_in_by_their_names_in_any_order(self):
        error = errors.NoBar(other=5, one=2)
        self.assertEqual((error.one, error.other), (2, 5))
        self.assertEqual(errors.Full(many=6).many, 6)
        for kind in (errors.NoJoint, errors.Twice, errors.Held, errors.NotHeld):
            self.assertEqual(kind(name="ab").name, "ab")

    def test_names_are_kept_as_handed_in(self):
        for kind in (errors.NoJoint, errors.Twice, errors.Held, errors.NotHeld):
            for name in ("", "a", "abcdefgh", "A b\n", "~" * 4000, "{name}", "'", '"', "\\"):
                self.assertEqual(kind(name).name, name)

    def test_full_has_how_many_there_may_be(self):
        for many in (0, 6, HUGE):
            self.assertEqual(errors.Full(many).many, many)

    def test_only_their_own_fields_are_set(self):
        for name in FORMS + NOWS:
            with self.subTest(name=name):
                self.assertEqual(set(vars(made(name))), set(FIELDS.get(name, ())))

    def test_fields_can_neither_be_left_out_nor_be_more(self):
        for name, fields in FIELDS.items():
            kind = getattr(errors, name)
            with self.subTest(name=name):
                self.assertRaises(TypeError, kind)
                self.assertRaises(TypeError, kind, *(["a"] * (len(fields) - 1)))
                self.assertRaises(TypeError, kind, *(["a"] * (len(fields) + 1)))

    def test_two_refusals_keep_their_own_fields(self):
        first, second = errors.NoBar(0, 1), errors.NoBar(2, 3)
        self.assertEqual((first.one, first.other, second.one, second.other), (0, 1, 2, 3))


class Texts(unittest.TestCase):
    def test_those_without_fields_are_made_of_a_text(self):
        for name in FORMS + ("NothingLeft", "RigError", "FormError", "NowError"):
            for text in ("", "why it is so", "~ \n"):
                with self.subTest(name=name, text=text):
                    self.assertEqual(str(getattr(errors, name)(text)), text)

    def test_those_with_fields_have_a_text_that_tells_them(self):
        self.assertIn("1", str(errors.NoBar(1, 2)))
        self.assertIn("2", str(errors.NoBar(1, 2)))
        self.assertIn(str(HUGE), str(errors.NoBar(HUGE, 2)))
        self.assertIn("6", str(errors.Full(6)))
        for name in ("NoJoint", "Twice", "Held", "NotHeld"):
            self.assertIn("ab", str(made(name)))


if __name__ == "__main__":
    unittest.main()
