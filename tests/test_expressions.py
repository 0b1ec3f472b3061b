import unittest

from mendedruns.errors import InvalidExpression, InvalidState
from mendedruns.expressions import evaluate, names_in
from tests.building import FAILING, LARGEST
from tests.strange import STRANGE

DEEPEST = (((((),),),),)
TWO_PART_WORDS = ["add", "subtract", "multiply", "divide", "less", "equal", "join", "item"]
INTEGER_WORDS = ["add", "subtract", "multiply", "divide", "less"]
ONE = ("value", 1)


def form(word, *values):
    """Return the expression with this word whose parts are these values."""
    return (word,) + tuple(("value", value) for value in values)


def nested(depth):
    """Return an expression that is nested so deep."""
    made = ONE
    for level in range(depth - 1):
        made = ("size" if level % 2 else "list", made)
    return made


def added(depth):
    """Return an expression nested so deep, both parts of which are so deep but one."""
    return ONE if depth == 1 else ("add", added(depth - 1), added(depth - 1))


class Case(unittest.TestCase):
    def check_value(self, expression, value, variables=None):
        answer = evaluate(expression, variables or {})
        self.assertEqual(answer, ("value", value))
        self.assertFalse(isinstance(answer[1], bool))

    def check_failed(self, expression, reason, variables=None):
        self.assertEqual(evaluate(expression, variables or {}), ("failed", reason))

    def check_invalid(self, expression):
        with self.assertRaises(InvalidExpression) as caught:
            evaluate(expression, {})
        self.assertTrue(caught.exception.value is expression)
        with self.assertRaises(InvalidExpression) as caught:
            names_in(expression)
        self.assertTrue(caught.exception.value is expression)


class ExampleTest(Case):
    def test_examples(self):
        self.check_value(("divide", ("name", "a"), ("value", 2)), -2, {"a": -3})
        self.check_failed(("add", ("name", "a"), ("value", "x")), "kind", {"a": 1})


class FormsTest(Case):
    def test_value(self):
        for value in (0, -7, LARGEST, -LARGEST, "", "a0", "a" * 60, (), (1, "a", ()), DEEPEST, (1,) * 50):
            self.check_value(("value", value), value)

    def test_name(self):
        for value in (0, -7, "", "a0", (), (1, ("a",))):
            self.check_value(("name", "x"), value, {"x": value, "y": 5})
        self.check_failed(("name", "x"), "name")
        self.check_failed(("name", "x"), "name", {"y": 1, "xx": 2})
        self.check_value(("name", "abcdefghijkl"), 1, {"abcdefghijkl": 1})

    def test_add_subtract_multiply(self):
        self.check_value(form("add", 2, 3), 5)
        self.check_value(form("add", -2, 2), 0)
        self.check_value(form("subtract", 2, 3), -1)
        self.check_value(form("subtract", -2, -3), 1)
        self.check_value(form("multiply", -4, 3), -12)
        self.check_value(form("multiply", 0, LARGEST), 0)

    def test_divide_rounds_down(self):
        for first, second, quotient in ((7, 2, 3), (-7, 2, -4), (7, -2, -4), (-7, -2, 3), (6, 3, 2), (-6, 3, -2)):
            self.check_value(form("divide", first, second), quotient)
        for first, second, quotient in ((0, 5, 0), (0, -5, 0), (1, -5, -1), (LARGEST, -1, -LARGEST), (1, LARGEST, 0)):
            self.check_value(form("divide", first, second), quotient)
        self.check_value(form("divide", LARGEST, 2), 5 * 10 ** 59 - 1)

    def test_less(self):
        for first, second, answer in ((1, 2, 1), (2, 1, 0), (2, 2, 0), (-2, -1, 1), (-LARGEST, LARGEST, 1)):
            self.check_value(form("less", first, second), answer)

    def test_equal(self):
        values = [0, 1, -1, "", "a", "0", "1", (), (0,), (1,), ("a", (1,)), ("a", (2,))]
        for index, one in enumerate(values):
            for place, other in enumerate(values):
                self.check_value(form("equal", one, other), 1 if index == place else 0)

    def test_join(self):
        self.check_value(form("join", "ab", "c"), "abc")
        self.check_value(form("join", "", ""), "")
        self.check_value(form("join", (1, "a"), ((2,),)), (1, "a", (2,)))
        self.check_value(form("join", (), ()), ())

    def test_list(self):
        self.check_value(("list",), ())
        self.check_value(form("list", 1, "a", (2,)), (1, "a", (2,)))
        self.check_value(form("list", *range(10)), tuple(range(10)))
        self.check_value(("list", ("list",), ("list", ONE)), ((), (1,)))

    def test_size(self):
        for value, size in (("", 0), ("abc", 3), ("a" * 60, 60), ((), 0), ((1, (2, 3)), 2), ((1,) * 50, 50)):
            self.check_value(form("size", value), size)

    def test_item(self):
        self.check_value(form("item", (5, "a", (6,)), 0), 5)
        self.check_value(form("item", (5, "a", (6,)), 1), "a")
        self.check_value(form("item", (5, "a", (6,)), 2), (6,))

    def test_nested_forms(self):
        squared = ("multiply", ("subtract", ("name", "a"), ("name", "b")), ("add", ("name", "a"), ("name", "b")))
        self.check_value(squared, 16, {"a": 5, "b": 3})
        self.check_value(("item", ("join", ("name", "l"), ("list", ("name", "a"))), form("size", "ab")), 9,
                         {"l": (7, 8), "a": 9})


class ReasonsTest(Case):
    def test_each_reason(self):
        for reason, expression in FAILING.items():
            self.check_failed(expression, reason)

    def test_integers_are_needed(self):
        for word in INTEGER_WORDS:
            for wrong in ("", "a", "1", (), (1,)):
                self.check_failed(form(word, wrong, 1), "kind")
                self.check_failed(form(word, 1, wrong), "kind")
                self.check_failed(form(word, wrong, wrong), "kind")

    def test_join_needs_two_texts_or_two_lists(self):
        for one, other in (("a", ()), ((), "a"), ("a", 1), (1, "a"), ((), 1), (1, ()), (1, 2)):
            self.check_failed(form("join", one, other), "kind")

    def test_size_needs_a_text_or_a_list(self):
        self.check_failed(form("size", 0), "kind")
        self.check_failed(form("size", -12), "kind")

    def test_item_needs_a_list_and_an_integer(self):
        for one, other in (("abc", 0), (5, 0), ((1,), "a"), ((1,), "0"), ((1,), (0,)), ("abc", "a"), (0, (1,))):
            self.check_failed(form("item", one, other), "kind")

    def test_zero(self):
        for first in (0, 1, -1, LARGEST):
            self.check_failed(form("divide", first, 0), "zero")

    def test_range(self):
        for index in (-1, -2, -3, 2, 3, LARGEST, -LARGEST):
            self.check_failed(form("item", (5, 6), index), "range")
        self.check_failed(form("item", (), 0), "range")

    def test_kind_is_ahead_of_zero_and_range(self):
        self.check_failed(form("divide", "a", 0), "kind")
        self.check_failed(form("divide", (), 0), "kind")
        self.check_failed(form("item", "a", 5), "kind")
        self.check_failed(form("item", "a", -1), "kind")
        self.check_failed(form("item", 5, -1), "kind")

    def test_size_of_integers(self):
        self.check_value(form("add", LARGEST, 0), LARGEST)
        self.check_value(form("add", LARGEST - 1, 1), LARGEST)
        self.check_failed(form("add", LARGEST, 1), "size")
        self.check_failed(form("add", -LARGEST, -1), "size")
        self.check_value(form("subtract", 1 - LARGEST, 1), -LARGEST)
        self.check_failed(form("subtract", -LARGEST, 1), "size")
        self.check_failed(form("subtract", LARGEST, -1), "size")
        self.check_value(form("multiply", 10 ** 30, 10 ** 29), 10 ** 59)
        self.check_failed(form("multiply", 10 ** 30, 10 ** 30), "size")
        self.check_failed(form("multiply", LARGEST, -LARGEST), "size")

    def test_size_of_texts(self):
        self.check_value(form("join", "a" * 30, "b" * 30), "a" * 30 + "b" * 30)
        self.check_failed(form("join", "a" * 30, "b" * 31), "size")
        self.check_failed(form("join", "a" * 60, "b" * 60), "size")

    def test_size_of_lists(self):
        self.check_value(form("join", (1,) * 25, ("a",) * 25), (1,) * 25 + ("a",) * 25)
        self.check_failed(form("join", (1,) * 26, (1,) * 25), "size")
        self.check_failed(form("join", ((1,) * 25,), (1,) * 25), "size")
        self.check_value(form("join", ((1,) * 24,), (1,) * 25), ((1,) * 24,) + (1,) * 25)
        self.check_value(form("list", (1,) * 24, (1,) * 24), ((1,) * 24, (1,) * 24))
        self.check_failed(form("list", (1,) * 24, (1,) * 25), "size")
        self.check_failed(form("list", (1,) * 50), "size")

    def test_size_of_deep_lists(self):
        self.check_value(("list", ("value", DEEPEST[0])), DEEPEST)
        self.check_failed(("list", ("value", DEEPEST)), "size")
        self.check_value(form("join", DEEPEST, DEEPEST), DEEPEST + DEEPEST)

    def test_first_failing_part_from_left_to_right(self):
        for first, one in FAILING.items():
            for second, other in FAILING.items():
                for word in TWO_PART_WORDS:
                    self.check_failed((word, one, other), first)
                self.check_failed(("list", ONE, one, other), first)
            for word in TWO_PART_WORDS:
                self.check_failed((word, one, ONE), first)
                self.check_failed((word, ONE, one), first)
            self.check_failed(("size", one), first)

    def test_failing_parts_are_ahead_of_the_kinds_of_others(self):
        for reason, failing in FAILING.items():
            for word in INTEGER_WORDS:
                self.check_failed((word, ("value", "a"), failing), reason)
            self.check_failed(("join", ("value", 1), failing), reason)
            self.check_failed(("item", ("value", 1), failing), reason)
            self.check_failed(("divide", failing, ("value", 0)), reason)

    def test_inner_failures_go_outwards(self):
        for reason, failing in FAILING.items():
            self.check_failed(("equal", ("size", ("list", ONE, failing)), ONE), reason)


class DepthAndCountTest(Case):
    def test_depth(self):
        for depth in range(1, 9):
            self.check_value(nested(depth), (1,) if depth % 2 == 0 else 1)
            self.check_value(added(depth), 2 ** (depth - 1))
        self.check_invalid(nested(9))
        self.check_invalid(added(9))
        self.check_invalid(("add", ONE, nested(8)))
        self.check_invalid(("list", ONE, ONE, added(8)))

    def test_depth_of_lists_without_parts(self):
        made = ("list",)
        for level in range(7):
            self.assertEqual(names_in(made), [])
            made = ("list", made)
        self.assertEqual(names_in(made), [])
        self.check_failed(made, "size")
        self.check_invalid(("list", made))

    def test_depth_of_values_does_not_count(self):
        made = ("value", DEEPEST)
        for level in range(7):
            made = ("equal", ONE, made)
        self.check_value(made, 0)
        self.check_invalid(("equal", ONE, made))

    def test_very_deep_expressions(self):
        made = ONE
        for level in range(5000):
            made = ("list",) + (made,) * 10
        self.check_invalid(made)

    def test_how_many_parts_of_a_list(self):
        self.check_value(form("list", *["a"] * 10), ("a",) * 10)
        self.check_invalid(form("list", *["a"] * 11))
        self.check_invalid(form("list", *["a"] * 100000))


class InvalidTest(Case):
    def test_no_tuple(self):
        for wrong in STRANGE + [0, 1, "", "a", "value", {}, {"value": 1}, ["name", "a"]]:
            self.check_invalid(wrong)

    def test_unknown_words(self):
        words = ["", "Add", "ADD", "add ", "plus", "values", "not", "let", "scan", 0, 1, (), ("add",), {}]
        for word in STRANGE + words:
            for count in range(4):
                self.check_invalid((word,) + (ONE,) * count)
        self.check_invalid(())

    def test_wrong_numbers_of_parts(self):
        for word in TWO_PART_WORDS:
            for count in (0, 1, 3, 4):
                self.check_invalid((word,) + (ONE,) * count)
        for count in (0, 2, 3):
            self.check_invalid(("size",) + (ONE,) * count)
        for word, part in (("value", 1), ("name", "a")):
            for count in (0, 2, 3):
                self.check_invalid((word,) + (part,) * count)

    def test_wrong_names(self):
        for wrong in STRANGE + ["", "A", "a0", "0", "a" * 13, "a b", "\u00e9", 0, 1, (), ("a",), ("name", "a"), {}]:
            self.check_invalid(("name", wrong))

    def test_wrong_values(self):
        wrong_ones = [LARGEST + 1, -LARGEST - 1, "A", "a" * 61, (1,) * 51, (DEEPEST,), ([],), {}, ({},), (True,)]
        for wrong in STRANGE + wrong_ones:
            self.check_invalid(("value", wrong))

    def test_wrong_parts_in_each_place(self):
        wrong_ones = STRANGE + [1, "a", (), {}, ("none", ONE), ("value",), ("name", "A"), ("value", True), ["value", 1]]
        for wrong in wrong_ones:
            for word in TWO_PART_WORDS:
                self.check_invalid((word, wrong, ONE))
                self.check_invalid((word, ONE, wrong))
            self.check_invalid(("size", wrong))
            for index in range(10):
                parts = [ONE] * 10
                parts[index] = wrong
                self.check_invalid(("list", *parts))
            self.check_invalid(("add", ONE, ("size", ("list", ONE, wrong))))

    def test_wrong_parts_behind_failing_ones(self):
        for failing in FAILING.values():
            self.check_invalid(("add", failing, ("value", True)))


class VariablesTest(Case):
    def check_state(self, variables):
        with self.assertRaises(InvalidState) as caught:
            evaluate(ONE, variables)
        self.assertTrue(caught.exception.value is variables)

    def test_no_states(self):
        for wrong in STRANGE + [0, 1, "", "a", (), ("a", 1), (("a", 1),)]:
            self.check_state(wrong)

    def test_keys_that_are_no_names(self):
        for wrong in ("", "a0", "0", "a" * 13, "A", "a b", 0, None, True, ("a",), object()):
            self.check_state({wrong: 1})
            self.check_state({"a": 1, wrong: 1})

    def test_wrong_values(self):
        for wrong in STRANGE + [{}, LARGEST + 1, "A", "a" * 61, (1,) * 51, (DEEPEST,), ([],)]:
            self.check_state({"a": wrong})
            self.check_state({"b": 1, "a": wrong})

    def test_expression_is_refused_first(self):
        for wrong in (5, None, (), ("add",)):
            for variables in (5, None, {"A": 1}):
                with self.assertRaises(InvalidExpression) as caught:
                    evaluate(wrong, variables)
                self.assertTrue(caught.exception.value is wrong)
                with self.assertRaises(InvalidExpression) as caught:
                    evaluate(variables=variables, expression=wrong)
                self.assertTrue(caught.exception.value is wrong)

    def test_arguments_by_name(self):
        self.assertEqual(evaluate(expression=("name", "a"), variables={"a": 1}), ("value", 1))
        self.assertEqual(evaluate(variables={"a": 1}, expression=("name", "a")), ("value", 1))
        self.assertEqual(evaluate(("name", "a"), variables={"a": 1}), ("value", 1))
        with self.assertRaises(InvalidState):
            evaluate(variables=7, expression=ONE)

    def test_arguments_are_not_changed(self):
        variables = {"b": 1, "a": (2,)}
        evaluate(("list", ("name", "a"), ("name", "none")), variables)
        evaluate(("join", ("name", "a"), ("name", "a")), variables)
        self.assertEqual(list(variables.items()), [("b", 1), ("a", (2,))])


class NamesTest(Case):
    def test_no_names(self):
        for expression in (ONE, ("value", "a"), ("value", ("name", "a")), ("list",), added(8)):
            self.assertEqual(names_in(expression), [])

    def test_in_the_order_of_writing(self):
        self.assertEqual(names_in(("name", "x")), ["x"])
        self.assertEqual(names_in(("add", ("name", "b"), ("name", "a"))), ["b", "a"])
        deep = ("list", ("size", ("name", "z")), ("add", ("item", ("name", "m"), ONE), ("name", "a")), ("name", "b"))
        self.assertEqual(names_in(deep), ["z", "m", "a", "b"])

    def test_each_once(self):
        self.assertEqual(names_in(("add", ("name", "a"), ("name", "a"))), ["a"])
        deep = ("list", ("name", "b"), ("add", ("name", "a"), ("name", "b")), ("name", "c"), ("name", "a"))
        self.assertEqual(names_in(deep), ["b", "a", "c"])

    def test_each_form(self):
        for word in TWO_PART_WORDS:
            self.assertEqual(names_in((word, ("name", "b"), ("name", "a"))), ["b", "a"])
        self.assertEqual(names_in(("size", ("name", "a"))), ["a"])
        letters = "jihgfedcba"
        self.assertEqual(names_in(("list",) + tuple(("name", letter) for letter in letters)), list(letters))

    def test_by_name(self):
        self.assertEqual(names_in(expression=("name", "a")), ["a"])

    def test_each_list_is_new(self):
        expression = ("add", ("name", "b"), ("name", "a"))
        names_in(expression).append("c")
        self.assertEqual(names_in(expression), ["b", "a"])
        self.assertEqual(expression, ("add", ("name", "b"), ("name", "a")))


if __name__ == "__main__":
    unittest.main()
