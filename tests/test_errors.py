import unittest

from markedways import errors
from values import odd_values

ATTRIBUTES = {
    "BadFields": (), "BadNumbers": (), "BadTree": (), "TooMany": ("what", "most"), "BadProgram": ("part",),
    "OtherFields": (), "BadTest": ("part",), "BadPacket": ("packet",), "BadMost": ("most",),
    "NoPlace": ("place",), "BadWord": ("word",), "BadTests": ("at",), "NoPart": ("path",), "BadLot": (),
    "BadNet": ("part",), "BadRule": ("at",), "BadDeed": ("deed",), "NothingLeft": (), "BadJournal": ("at",),
    "BadText": ("line",), "BadName": ("name",),
}


def error_classes():
    return {name: getattr(errors, name) for name in ATTRIBUTES}


class ErrorClasses(unittest.TestCase):
    def test_way_error_is_a_value_error(self):
        self.assertEqual(errors.WayError.__bases__, (ValueError,))
        self.assertEqual(str(errors.WayError("so")), "so")

    def test_there_are_just_these_direct_subclasses(self):
        self.assertEqual(len(ATTRIBUTES), 21)
        self.assertEqual({kind.__name__ for kind in errors.WayError.__subclasses__()}, set(ATTRIBUTES))
        for name, kind in error_classes().items():
            with self.subTest(name):
                self.assertEqual(kind.__bases__, (errors.WayError,))
                self.assertEqual(kind.__name__, name)
                self.assertEqual(kind.__module__, "markedways.errors")

    def test_none_is_another_one(self):
        for name, kind in error_classes().items():
            error = kind(*[1 for _ in ATTRIBUTES[name]])
            for other_name, other in error_classes().items():
                with self.subTest(name=name, other=other_name):
                    self.assertEqual(isinstance(error, other), name == other_name)
            self.assertIsInstance(error, errors.WayError)
            self.assertIsInstance(error, ValueError)

    def test_an_error_is_no_iterable_and_equal_to_no_other_value(self):
        for name, kind in error_classes().items():
            error = kind(*[1 for _ in ATTRIBUTES[name]])
            with self.subTest(name):
                with self.assertRaises(TypeError):
                    iter(error)
                self.assertFalse(error == 1)
                self.assertFalse(error == "1")


class Attributes(unittest.TestCase):
    def test_any_values_by_position_and_by_name(self):
        for name, kind in error_classes().items():
            for value in odd_values() if ATTRIBUTES[name] else []:
                worths = [value, [value]][:len(ATTRIBUTES[name])]
                by_position = kind(*worths)
                by_name = kind(**dict(zip(ATTRIBUTES[name], worths)))
                for attribute, worth in zip(ATTRIBUTES[name], worths):
                    with self.subTest(name=name, value=value):
                        for error in (by_position, by_name):
                            self.assertEqual(getattr(error, attribute), worth)
                            self.assertIs(getattr(error, attribute).__class__, worth.__class__)
                self.assertIsInstance(str(by_position), str)
                self.assertIsInstance(str(by_name), str)

    def test_names_in_any_order(self):
        error = errors.TooMany(most=4000, what="trees")
        self.assertEqual((error.what, error.most), ("trees", 4000))

    def test_the_attributes_are_all_needed_and_no_more(self):
        for name, kind in error_classes().items():
            if ATTRIBUTES[name]:
                with self.subTest(name):
                    with self.assertRaises(TypeError):
                        kind()
                    with self.assertRaises(TypeError):
                        kind(*[1 for _ in ATTRIBUTES[name]], 1)

    def test_the_others_are_made_from_a_message(self):
        for name, kind in error_classes().items():
            if not ATTRIBUTES[name]:
                with self.subTest(name):
                    self.assertEqual(str(kind("what is wrong")), "what is wrong")

    def test_later_changes_to_a_value_have_no_effect(self):
        for name, kind in error_classes().items():
            for attribute in ATTRIBUTES[name]:
                with self.subTest(name=name, attribute=attribute):
                    value = {"rows": [1, ([2],)]}
                    error = kind(**{other: value for other in ATTRIBUTES[name]})
                    value["rows"][1][0].append(3)
                    value["rows"].append(4)
                    value["more"] = 5
                    self.assertEqual(getattr(error, attribute), {"rows": [1, ([2],)]})

    def test_a_value_stays_as_it_is(self):
        value = [1, ([2],), {"a": [3]}]
        error = errors.BadPacket(value)
        error.packet[1][0].append(4)
        error.packet[2]["a"].append(5)
        error.packet.append(6)
        self.assertEqual(value, [1, ([2],), {"a": [3]}])

    def test_later_changes_at_the_deepest_level_have_no_effect(self):
        for kind in ("list", "tuple", "dict"):
            lists = [[]]
            for _ in range(19):
                lists.append({"list": [lists[-1]], "tuple": (lists[-1],), "dict": {0: lists[-1]}}[kind])
            error = errors.BadPacket(lists[-1])
            before = repr(error.packet)
            lists[0].append(1)
            with self.subTest(kind):
                self.assertEqual(repr(error.packet), before)
                self.assertNotEqual(repr(lists[-1]), before)

    def test_a_value_without_end_makes_an_error_too(self):
        value = []
        value.append(value)
        self.assertIsInstance(errors.BadPacket(value).packet, list)


if __name__ == "__main__":
    unittest.main()
