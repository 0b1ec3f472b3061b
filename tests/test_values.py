import unittest

from mendedruns.values import are_equal, is_key, is_name, is_state, is_value
from tests.strange import STRANGE, Hostile

LARGEST = 10 ** 60 - 1
OTHER_CHARACTERS = list("AZ_-+. =!'/:@[`{\n\t\0") + [
    "\u00e9", "\u00df", "\u00aa", "\u00b2", "\u0660", "\u0430", "\u212a", "\u0131", "\uff41", "\uff11", "\ud800",
]


def nested(depth):
    """Return a tuple that is nested so deep."""
    made = ()
    for level in range(depth - 1):
        made = (made,)
    return made


class Case(unittest.TestCase):
    def check(self, asked, values, expected):
        for value in values:
            self.assertTrue(asked(value) is expected, (asked, expected))


class ValuesTest(Case):
    def test_example(self):
        self.assertTrue(is_value((1, ("a", 2))) is True)

    def test_integers(self):
        self.check(is_value, [0, 1, -1, 10 ** 59, -10 ** 59, LARGEST, -LARGEST], True)

    def test_integers_of_too_many_digits(self):
        self.check(is_value, [LARGEST + 1, -LARGEST - 1, 10 ** 61, 10 ** 5000, -10 ** 5000, 1 << 200000], False)

    def test_texts(self):
        self.check(is_value, ["", "a", "z", "0", "9", "az09", "a" * 60, "9" * 60], True)

    def test_texts_that_are_too_long(self):
        self.check(is_value, ["a" * 61, "9" * 61, "a" * 100000], False)

    def test_texts_with_other_characters(self):
        for sign in OTHER_CHARACTERS:
            self.check(is_value, [sign, "a" + sign, sign + "a", "a" + sign + "a"], False)

    def test_lists(self):
        self.check(is_value, [(), (1,), ("a", 1, -1), ((), ("a", (1,)))], True)

    def test_depth_of_lists(self):
        for depth in range(1, 6):
            self.check(is_value, [nested(depth), (1, nested(depth - 1) if depth > 1 else 1, "a")], True)
        self.check(is_value, [((((1,),),),), (((((1, "a"),),),),)], True)
        self.check(is_value, [nested(6), nested(7), nested(2000), (1, nested(5)), ((((((1,),),),),),)], False)

    def test_how_many_values_in_a_list(self):
        self.check(is_value, [(1,) * 50, ((),) * 50, ("a",) * 50], True)
        self.check(is_value, [(1,) * 51, ((),) * 51, ("a",) * 51, (1,) * 100000], False)

    def test_values_are_counted_at_every_depth(self):
        self.check(is_value, [((1,) * 49,), (1, (1,) * 48), ((1,) * 24, (1,) * 24), (((1,) * 48,),)], True)
        self.check(is_value, [((((1,) * 46,),),), ((((((1,) * 45),), 1),),)], True)
        self.check(is_value, [((1,) * 50,), (1, (1,) * 49), ((1,) * 25, (1,) * 24), (((1,) * 49,),)], False)
        self.check(is_value, [(((((1,) * 47,),),),), (((((1,) * 45, 1), 1),),)], False)
        self.check(is_value, [(((((1,) * 46,),),),), ((((1,) * 45, 1), 1),)], True)

    def test_lists_of_very_many_lists(self):
        wide = ()
        for level in range(30):
            wide = (wide,) * 50
        self.check(is_value, [wide], False)

    def test_strange_things(self):
        self.check(is_value, STRANGE + [{}, {"a": 1}], False)

    def test_strange_things_in_lists(self):
        for strange in STRANGE + [{}, {"a": 1}, LARGEST + 1, "A", "a" * 61]:
            self.check(is_value, [(strange,), (1, strange), (strange, 1), ((), (1, (strange,)))], False)


class KeysAndNamesTest(Case):
    def test_keys(self):
        self.check(is_key, ["a", "0", "z9", "a" * 60, "0" * 60], True)
        self.check(is_key, ["", "a" * 61, "A", "a b", "a=", "a_", 0, 1, (), ("a",)] + STRANGE + [{}], False)

    def test_names(self):
        self.check(is_name, ["a", "z", "abcdefghijkl", "mnopqrstuvwx", "yz"], True)
        self.check(is_name, ["", "a" * 13, "a" * 60, "0", "a0", "0a", "a1b", "A", "aB", "a b", 0, 1, ()], False)
        self.check(is_name, STRANGE + [{}], False)

    def test_other_characters(self):
        for sign in OTHER_CHARACTERS:
            for asked in (is_key, is_name):
                self.check(asked, [sign, "a" + sign, sign + "a"], False)


class StatesTest(Case):
    def test_states(self):
        self.check(is_state, [{}, {"a": 1}, {"0": "", "a1": (), "z" * 60: (1, ("a",))}], True)
        self.check(is_state, [{"key" + str(number): number for number in range(20000)}], True)

    def test_no_dicts(self):
        self.check(is_state, STRANGE + [0, 1, "", "a", (), ("a", 1), (("a", 1),)], False)

    def test_wrong_keys(self):
        keys = ["", "A", "a" * 61, "a b", 0, 1, None, True, (), ("a",), b"a", 1.5, frozenset(), object(), int]
        for key in keys:
            self.check(is_state, [{key: 1}, {"a": 1, key: 1}, {key: 1, "a": 1}], False)

    def test_wrong_values(self):
        for value in STRANGE + [{}, {"a": 1}, LARGEST + 1, "A", nested(6), (1,) * 51, ([],)]:
            self.check(is_state, [{"a": value}, {"a": 1, "b": value}, {"a": value, "b": 1}], False)


class ArgumentsTest(Case):
    def test_by_name(self):
        for asked, value in ((is_value, 1), (is_key, "a"), (is_name, "a"), (is_state, {"a": 1})):
            self.assertTrue(asked(value=value) is True)
        self.assertTrue(are_equal(one=1, other=2) is False)
        self.assertTrue(are_equal(other="a", one="a") is True)

    def test_arguments_are_not_changed(self):
        state = {"b": (1, ("a",)), "a": 2}
        self.assertTrue(is_state(state))
        self.assertEqual(list(state.items()), [("b", (1, ("a",))), ("a", 2)])
        held = [1]
        self.assertFalse(is_value((held,)))
        self.assertFalse(are_equal((held,), (held,)))
        self.assertEqual(held, [1])


class EqualityTest(Case):
    def check_equality(self, pairs, expected):
        for one, other in pairs:
            self.assertTrue(are_equal(one, other) is expected)
            self.assertTrue(are_equal(other, one) is expected)

    def test_example(self):
        self.assertTrue(are_equal((1, True), (1, 1)) is False)

    def test_equal_things(self):
        things = [0, 1, -1, 10 ** 100, 10 ** 5000, "", "a", "A b\u00e9", True, False, None, (), (1,), (None, True)]
        self.check_equality([(thing, thing) for thing in things], True)
        self.check_equality([(int("7" * 70), int("7" * 70)), ("ab" * 50, "".join(["ab"] * 50))], True)
        self.check_equality([((1, ("a", ()), None), (1, ("a", ()), None))], True)

    def test_unequal_things(self):
        things = [0, 1, -1, 10 ** 100, "", "a", "A", "0", "1", True, False, None, (), (0,), (1,), (1, 1), ("a",), ((),)]
        for index, thing in enumerate(things):
            self.check_equality([(thing, other) for other in things[index + 1:]], False)

    def test_truth_is_no_integer(self):
        self.check_equality([(1, True), (0, False), (True, False), (0, None), (False, None), ("", None)], False)
        self.check_equality([((1,), (True,)), (((0,),), ((False,),)), ((None,), (0,))], False)

    def test_tuples(self):
        self.check_equality([((), (1,)), ((1,), (1, 2)), ((1, 2), (2, 1)), ((1, 2), (1, 2, 2)), ((1,), 1)], False)
        whole = (1, ("a", (2, ("b",))), None)
        others = [(2, ("a", (2, ("b",))), None), (1, ("b", (2, ("b",))), None), (1, ("a", (3, ("b",))), None)]
        others += [(1, ("a", (2, ("c",))), None), (1, ("a", (2, ("b",))), False), (1, ("a", (2, ("b", ()))), None)]
        self.check_equality([(whole, whole)], True)
        self.check_equality([(whole, other) for other in others], False)

    def test_deep_tuples(self):
        self.check_equality([(nested(5000), nested(5000))], True)
        self.check_equality([(nested(5000), nested(4999))], False)

    def test_other_things_are_equal_to_nothing(self):
        strange = [thing for thing in STRANGE if not (thing is None or isinstance(thing, bool))]
        for thing in strange + [{}, {"a": 1}]:
            others = [thing, 1, "a", True, None, (), [], {}, (thing,), Hostile()]
            self.check_equality([(thing, other) for other in others], False)
            self.check_equality([((thing,), (thing,)), ((1, (thing, 2)), (1, (thing, 2)))], False)
        self.check_equality([([], ()), ([1], (1,)), (1, 1.0), ("a", b"a"), ({}, ())], False)


if __name__ == "__main__":
    unittest.main()
