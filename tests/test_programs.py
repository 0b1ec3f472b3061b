import random
import unittest

from mendedruns.errors import InvalidProgram
from mendedruns.programs import check_program, places, statement_at
from tests.building import ENDLESS, RAISE_ALL, SUM, TRUE, Maker, add, let, n, v
from tests.strange import STRANGE, self_containing_list

LET = let("a", v(1))
WRONG = ("stop",)
# A right statement with each word, and the kinds of its parts.
SAMPLES = {
    "let": (let("a", v(1)), ["name", "expression"]),
    "read": (("read", "a", v("x")), ["name", "expression"]),
    "write": (("write", v("x"), n("a")), ["expression", "expression"]),
    "delete": (("delete", v("x")), ["expression"]),
    "if": (("if", n("a"), (LET,), ()), ["expression", "block", "block"]),
    "each": (("each", "a", ("list", v(1)), (LET,)), ["name", "expression", "block"]),
    "scan": (("scan", "a", v("u"), (LET,)), ["name", "expression", "block"]),
    "while": (("while", v(0), (LET,)), ["expression", "block"]),
    "define": (("define", "f", ("a", "b"), (LET,)), ["name", "parameters", "block"]),
    "call": (("call", "a", "g", (v(1), n("b"))), ["name", "name", "expressions"]),
    "try": (("try", (LET,), (LET,)), ["block", "block"]),
    "refuse": (("refuse", v(1)), ["expression"]),
    "return": (("return", v(1)), ["expression"]),
}
BEFORE = (("define", "g", ("x", "y"), ()),)
OTHER_VALUES = STRANGE + [0, 1, -1, "", "A", "a0", "0", "a" * 13, (WRONG, 1), {}, {"a": 1}, (((),),)]
NO_PARTS = {
    "name": [value for value in OTHER_VALUES] + [(), n("a"), ("a",), ["a"]],
    "expression": [value for value in OTHER_VALUES] + ["a", (), ("value",), ("name", "A"), ("value", True), (TRUE,), LET],
    "parameters": [value for value in OTHER_VALUES] + [
        "a", ["a"], ("a", "a"), ("a", "b", "a"), ("a", 1), (True,), ("A",), ("",), (n("a"),), ("a", ["b"]), tuple("abcdefg"),
    ],
    "expressions": [value for value in OTHER_VALUES] + [TRUE, [TRUE, TRUE], (TRUE, 1), (True, TRUE), (TRUE, ("value", 1.5))],
    "block": [value for value in STRANGE] + ["", "a", 0, 1, {}, [LET]],
}
BLOCK_WORDS = {
    "if": ["then", "else"], "each": ["each"], "scan": ["scan"], "while": ["while"], "define": ["define"],
    "try": ["try", "other"],
}


def with_blocks(word, *blocks):
    """Return a statement with this word that has these blocks."""
    found = list(blocks)
    statement, kinds = SAMPLES[word]
    parts = [found.pop(0) if kind == "block" else part for kind, part in zip(kinds, statement[1:])]
    return (word,) + tuple(parts)


def nested(depth, inner=(), word="if"):
    """Return a program with blocks that are nested so deep, the innermost of which is given."""
    made = inner
    for level in range(depth - 1):
        made = (with_blocks("if" if level < depth - 2 else word, made, ()),)
    return made


class Case(unittest.TestCase):
    def check_wrong(self, program, place):
        with self.assertRaises(InvalidProgram) as caught:
            check_program(program)
        self.assertEqual(caught.exception.place, place)
        for call in (places, lambda program: statement_at(program, (0,))):
            with self.assertRaises(InvalidProgram) as caught:
                call(program)
            self.assertEqual(caught.exception.place, place)

    def check_right(self, *programs):
        for program in programs:
            self.assertTrue(check_program(program) is None)


class FormsTest(Case):
    def test_example(self):
        self.check_wrong((let("a", v(1)), ("if", n("a"), (), (("stop",),))), (1, "else", 0))

    def test_each_form(self):
        for statement, kinds in SAMPLES.values():
            self.check_right(BEFORE + (statement,))

    def test_empty_blocks(self):
        self.check_right(())
        for word, words in BLOCK_WORDS.items():
            self.check_right((with_blocks(word, *[()] * len(words)),))

    def test_programs_of_other_tests(self):
        self.check_right(SUM, RAISE_ALL, ENDLESS)
        maker = Maker(random.Random(1))
        for turn in range(100):
            self.check_right(maker.program(30))

    def test_no_tuples(self):
        for value in STRANGE + [0, 1, "", "a", {}, [LET], [], {0: LET}, self_containing_list()]:
            self.check_wrong(value, ())

    def test_by_name(self):
        self.assertTrue(check_program(program=(LET,)) is None)
        with self.assertRaises(InvalidProgram) as caught:
            check_program(program=(LET, 5))
        self.assertEqual(caught.exception.place, (1,))

    def test_statements_that_are_none(self):
        for value in STRANGE + [0, 1, "", "let", {}, (), ["let", "a", v(1)], v(1), n("a"), ((LET,),), (LET,)]:
            self.check_wrong((value,), (0,))
            self.check_wrong((LET, value), (1,))
            self.check_wrong((LET, ("try", (), (LET, value))), (1, "other", 1))

    def test_unknown_words(self):
        words = ["", "Let", "LET", "let ", "then", "else", "other", "add", "value", "expression", "stop", 0, 1, (), ("let",)]
        for word in STRANGE + words + [{}]:
            for parts in ((), (v(1),), ("a", v(1)), ("a", v(1), ()), (v(1), (), ())):
                self.check_wrong(((word,) + parts,), (0,))

    def test_wrong_numbers_of_parts(self):
        for statement, kinds in SAMPLES.values():
            self.check_wrong(BEFORE + (statement[:-1],), (1,))
            self.check_wrong(BEFORE + (statement[:1],), (1,))
            for more in (v(1), (), "a", None):
                self.check_wrong(BEFORE + (statement + (more,),), (1,))

    def test_wrong_part_in_each_place(self):
        for statement, kinds in SAMPLES.values():
            for index, kind in enumerate(kinds):
                for wrong in NO_PARTS[kind]:
                    made = statement[:index + 1] + (wrong,) + statement[index + 2:]
                    self.check_wrong(BEFORE + (made,), (1,))
                    self.check_wrong(BEFORE + (LET, made, WRONG), (2,))

    def test_parameters(self):
        for parameters in ((), ("a",), tuple("abcdef"), ("abcdefghijkl", "f")):
            self.check_right((("define", "f", parameters, ()),))
        self.check_wrong((("define", "f", tuple("abcdefg"), ()),), (0,))

    def test_names_of_procedures_and_variables(self):
        self.check_right((("define", "let", (), ()), ("call", "let", "let", ()), let("let", n("let"))))

    def test_very_wide_blocks(self):
        self.check_wrong((LET,) * 1000000, (100,))
        self.check_wrong((("if", v(1), (LET,) * 1000000, ()),), (0, "then", 99))

    def test_very_deep_and_wide_blocks(self):
        made = ()
        for level in range(5000):
            made = (("if", v(1), made, made),) * 3
        self.check_wrong(made, (0, "then") * 5 + (0,))


class ProceduresTest(Case):
    def test_calls(self):
        define = ("define", "f", ("a", "b"), ())
        call = ("call", "x", "f", (v(1), n("y")))
        self.check_right((define, call), (define, ("if", v(1), (call,), (call,))), (define, LET, ("try", (), (call,))))
        self.check_right((define, ("define", "g", (), (call,)), ("call", "x", "g", ())))

    def test_numbers_of_expressions(self):
        for count in range(7):
            define = ("define", "f", tuple("abcdef"[:count]), ())
            for given in range(9):
                program = (define, LET, ("call", "x", "f", (v(1),) * given))
                if given == count:
                    self.check_right(program)
                else:
                    self.check_wrong(program, (2,))

    def test_called_before_the_definition(self):
        define = ("define", "f", (), ())
        call = ("call", "x", "f", ())
        self.check_wrong((call, define), (0,))
        self.check_wrong((call,), (0,))
        self.check_wrong((LET, ("if", v(1), (), (LET, call)), define), (1, "else", 1))
        self.check_wrong((define, ("call", "x", "g", ())), (1,))

    def test_called_within_its_own_block(self):
        call = ("call", "x", "f", ())
        self.check_wrong((("define", "f", (), (LET, call)),), (0, "define", 1))
        self.check_wrong((("define", "f", (), (("try", (LET,), (call,)),)), call), (0, "define", 0, "other", 0))

    def test_called_in_the_block_of_an_earlier_procedure(self):
        call = ("call", "x", "g", ())
        self.check_wrong((("define", "f", (), (call,)), ("define", "g", (), ())), (0, "define", 0))

    def test_defined_twice(self):
        define = ("define", "f", (), ())
        self.check_right((define, ("define", "g", (), ())))
        self.check_wrong((define, define), (1,))
        self.check_wrong((define, LET, ("define", "f", ("a",), (WRONG,)), WRONG), (2,))

    def test_defined_in_a_block(self):
        define = ("define", "f", (), ())
        for word, words in BLOCK_WORDS.items():
            if word == "define":
                self.check_wrong((("define", "g", (), (LET, define)),), (0, "define", 1))
                continue
            for index, block_word in enumerate(words):
                blocks = [()] * len(words)
                blocks[index] = (LET, define)
                self.check_wrong((LET, with_blocks(word, *blocks)), (1, block_word, 1))


class BoundsTest(Case):
    def test_hundred_statements(self):
        self.check_right((LET,) * 100)
        self.check_wrong((LET,) * 101, (100,))
        self.check_wrong((LET,) * 200, (100,))

    def test_statements_in_blocks_count(self):
        inner = ("if", v(1), (LET,) * 40, (LET,) * 40)
        self.check_right((inner,) + (LET,) * 19)
        self.check_wrong((inner,) + (LET,) * 20, (20,))
        self.check_right((LET,) * 19 + (inner,))
        self.check_wrong((LET,) * 20 + (inner,), (20, "else", 39))
        self.check_wrong((LET,) * 50 + (inner,) + (LET,) * 100, (50, "else", 9))

    def test_tries_and_definitions_count(self):
        tries = (("try", (), ()),) * 50 + (("define", "f", (), ()),)
        self.check_right(tries + (LET,) * 49)
        self.check_wrong(tries + (LET,) * 50, (100,))

    def test_the_statement_itself_is_told(self):
        self.check_wrong((LET,) * 100 + (("if", v(1), (LET,), ()),), (100,))
        self.check_wrong((LET,) * 99 + (("if", v(1), (LET,), ()),), (99, "then", 0))
        self.check_wrong((LET,) * 100 + (WRONG,), (100,))

    def test_depth(self):
        for depth in range(1, 7):
            self.check_right(nested(depth), nested(depth, (LET,)))
        self.check_wrong(nested(7), (0, "then") * 5 + (0,))
        self.check_wrong(nested(7, (WRONG,)), (0, "then") * 5 + (0,))
        self.check_wrong(nested(8), (0, "then") * 5 + (0,))

    def test_depth_of_each_word(self):
        for word, words in BLOCK_WORDS.items():
            if word == "define":
                continue
            empty = with_blocks(word, *[()] * len(words))
            self.check_right(nested(5, (empty,)))
            self.check_wrong(nested(6, (LET, empty)), (0, "then") * 5 + (1,))

    def test_definitions_are_as_deep_as_others(self):
        self.check_right((("define", "f", (), nested(5)),))
        self.check_wrong((("define", "f", (), nested(6)),), (0, "define") + (0, "then") * 4 + (0,))

    def test_each_block_of_a_deep_statement_counts(self):
        for index in range(2):
            blocks = [(), ()]
            blocks[index] = nested(5, (with_blocks("try", (), ()),))
            word = ["then", "else"][index]
            self.check_wrong((with_blocks("if", *blocks),), (0, word) + (0, "then") * 4 + (0,))


class FirstWrongTest(Case):
    def test_first_of_several(self):
        self.check_wrong((LET, WRONG, WRONG), (1,))
        self.check_wrong((("if", v(1), (LET, WRONG), (WRONG,)), WRONG), (0, "then", 1))
        self.check_wrong((("if", v(1), (LET,), (WRONG,)), WRONG), (0, "else", 0))
        self.check_wrong((("try", (("each", "a", v(()), (WRONG,)), WRONG), ()),), (0, "try", 0, "each", 0))

    def test_a_statement_stands_before_those_in_its_blocks(self):
        self.check_wrong((LET, ("if", v(True), (WRONG,), ())), (1,))
        self.check_wrong((LET, ("if", v(1), (WRONG,), [])), (1,))
        self.check_wrong((LET, ("if", v(1), (WRONG,), ())), (1, "then", 0))

    def test_a_wrong_block_behind_a_wrong_statement(self):
        self.check_wrong((("if", v(1), (WRONG,), ()), ("if", v(1), [], ())), (0, "then", 0))
        self.check_wrong((("try", (WRONG,), (("while", v(1), None),)),), (0, "try", 0))
        self.check_wrong((("try", (LET,), (("while", v(1), None),)),), (0, "other", 0))
        self.check_wrong((("try", (WRONG,), None),), (0,))

    def test_a_deep_block_behind_a_wrong_statement(self):
        self.check_wrong((WRONG,) + nested(7), (0,))
        self.check_wrong(nested(6, (WRONG, ("try", (), ()))), (0, "then") * 5 + (0,))
        self.check_wrong(nested(6, (("try", (), ()), WRONG)), (0, "then") * 5 + (0,))

    def test_each_word_of_places(self):
        for word, words in BLOCK_WORDS.items():
            for index, block_word in enumerate(words):
                blocks = [(LET,)] * len(words)
                blocks[index] = (LET, LET, WRONG)
                self.check_wrong((LET, with_blocks(word, *blocks)), (1, block_word, 2))

    def test_a_wrong_definition_defines_nothing(self):
        self.check_wrong((("define", "f", ("a", "a"), ()), ("call", "x", "f", (v(1), v(1)))), (0,))


class PlacesTest(Case):
    program = (
        LET,
        ("define", "f", ("a",), (LET, ("while", n("a"), (LET,)))),
        ("if", n("a"), (LET, ("try", (LET,), (LET, LET))), (("each", "b", v(()), (LET,)),)),
        ("scan", "k", v(""), (("call", "a", "f", (n("k"),)),)),
    )
    wanted = [
        (0,), (1,), (1, "define", 0), (1, "define", 1), (1, "define", 1, "while", 0), (2,), (2, "then", 0),
        (2, "then", 1), (2, "then", 1, "try", 0), (2, "then", 1, "other", 0), (2, "then", 1, "other", 1),
        (2, "else", 0), (2, "else", 0, "each", 0), (3,), (3, "scan", 0),
    ]

    def test_places(self):
        self.assertEqual(places(self.program), self.wanted)
        self.assertEqual(places(()), [])
        self.assertEqual(places(program=(LET, LET)), [(0,), (1,)])

    def test_each_list_is_new(self):
        places(self.program).clear()
        self.assertEqual(places(self.program), self.wanted)

    def test_statement_at(self):
        self.assertEqual(statement_at(self.program, (0,)), LET)
        self.assertEqual(statement_at(self.program, (2,)), self.program[2])
        self.assertEqual(statement_at(self.program, (1, "define", 1)), ("while", n("a"), (LET,)))
        self.assertEqual(statement_at(self.program, (2, "else", 0)), ("each", "b", v(()), (LET,)))
        self.assertEqual(statement_at(self.program, (3, "scan", 0)), ("call", "a", "f", (n("k"),)))
        self.assertEqual(statement_at(place=(1, "define", 1, "while", 0), program=self.program), LET)

    def test_statements_at_all_places(self):
        for place in self.wanted:
            at = self.program
            for index, word in zip(place[::2], place[1::2] + (None,)):
                statement = at[index]
                blocks = [part for part, kind in zip(statement[1:], SAMPLES[statement[0]][1]) if kind == "block"]
                at = dict(zip(BLOCK_WORDS.get(statement[0], []), blocks)).get(word)
            self.assertEqual(statement_at(self.program, place), statement)

    def test_places_that_lead_nowhere(self):
        wrong_ones = [
            (), (4,), (-1,), (0, 0), ("then",), (0, "then", 0), (2, "each", 0), (2, "then"), (2, "then", 2), (2, "other", 0),
            (2, "then", -1), (1, "call", 0), (3, "scan", "ab", 0), (1, "define", 1, "while", 0, 0), ("if",), (2, "Then", 0),
            (0.0,), (10 ** 100,), ((0,),), (None,), ("0",), (2, ("then",), 0), (2, "else", "each", 0), (1, "define", "1"),
        ]
        for place in STRANGE + wrong_ones + [0, 1, "", "0", {}, [0], [2, "then", 0], [(0,)]]:
            self.assertTrue(statement_at(self.program, place) is None)

    def test_true_is_no_index(self):
        for place in ((True,), (False,), (1, "define", True), (True, "define", 1), (2, "then", False)):
            self.assertTrue(statement_at(self.program, place) is None)

    def test_program_is_refused_first(self):
        for place in (5, (0,), None):
            with self.assertRaises(InvalidProgram) as caught:
                statement_at((LET, WRONG), place)
            self.assertEqual(caught.exception.place, (1,))


if __name__ == "__main__":
    unittest.main()
