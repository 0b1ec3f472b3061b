import random
import time
import unittest

from mendedruns.errors import InvalidProgram, InvalidState, ParseError
from mendedruns.programs import check_program
from mendedruns.texts import format_program, format_value, parse_program, parse_value
from mendedruns.values import are_equal, is_value
from tests.building import ENDLESS, LARGEST, RAISE_ALL, SUM, Maker, add, let, n, read, steps_program, v, write
from tests.strange import STRANGE

VALUES = [
    (0, "0"), (7, "7"), (-1, "-1"), (10, "10"), (LARGEST, "9" * 60), (-LARGEST, "-" + "9" * 60), ("", "'"), ("a", "'a"),
    ("0", "'0"), ("let", "'let"), ("a1" * 30, "'" + "a1" * 30), ((), "[]"), ((1,), "[1]"), (("",), "[']"), (((),), "[[]]"),
    ((1, "ab", ()), "[1 'ab []]"), ((1, (2, ("x", -3)), "", 4), "[1 [2 ['x -3]] ' 4]"), (((((1,),),),), "[[[[1]]]]"),
    (((((1, ()),),),), "[[[[1 []]]]]"), ((0,) * 50, "[" + " ".join("0" * 50) + "]"), (("", ""), "[' ']"),
]
PROGRAMS = [
    ((), ""),
    ((("let", "a", ("add", ("name", "b"), ("value", -1))),), "(let a (add b -1))"),
    ((("if", ("name", "a"), (("return", ("value", 1)),), ()),), "(if a {(return 1)} {})"),
    (SUM, "(read a 'x) (read b 'y) (write 'z (add a b)) (return a)"),
    (RAISE_ALL, "(scan k 'u {(read v k) (write k (add v 1))})"),
    (ENDLESS, "(let i 0) (while 1 {(let i (add i 1)) (write 'k i)})"),
    ((("delete", n("k")), ("refuse", v(())), ("try", (), (("refuse", v("")),))), "(delete k) (refuse []) (try {} {(refuse ')})"),
    ((("each", "x", v((1, (2,))), (("delete", n("x")),)),), "(each x [1 [2]] {(delete x)})"),
    ((("define", "f", (), ()), ("call", "c", "f", ())), "(define f [] {}) (call c f [])"),
    ((("define", "f", ("a",), (("return", n("a")),)), ("call", "f", "f", (("list",),))), "(define f [a] {(return a)}) (call f f [(list)])"),
    ((("define", "g", ("a", "b", "c"), ()), ("call", "x", "g", (n("a"), v((1,)), add(n("b"), v(""))))), (
        "(define g [a b c] {}) (call x g [a [1] (add b ')])")),
    ((let("let", n("value")), let("name", n("if"))), "(let let value) (let name if)"),
    (tuple(let("a", (word, n("a"), v(2))) for word in ("add", "subtract", "multiply", "divide", "less", "equal", "join", "item")), (
        " ".join("(let a (%s a 2))" % word for word in "add subtract multiply divide less equal join item".split()))),
    ((let("a", ("size", ("list", n("a"), ("list", v(1)), v((2,))))),), "(let a (size (list a (list 1) [2])))"),
    ((("write", v(""), v("")), ("try", (("try", (), ()),), (("while", n("a"), ()),))), "(write ' ') (try {(try {} {})} {(while a {})})"),
]
WRONG_VALUES = [True, False, None, 10 ** 60, -10 ** 60, "A", "a b", "a" * 61, (True,), (None,), ([1],), [], [1], {},
                ((((((),),),),),), (0,) * 51, ("A",), 1.0, (1.0,)]
NO_TEXTS_OF_VALUES = [
    "", " ", "a", "ab", "-", "--1", "-0", "00", "01", "-01", "+1", "1 ", " 1", "1 2", "1.0", "1_0", "1e3", "0x1", "'A", "'a b", "' ",
    " '", "''", "'a'", "'-1", "'a" * 2, "'" + "a" * 61, '"a"', "[", "]", "[]]", "[[]", "[1 ]", "[ 1]", "[ ]", "[1  2]", "[1,2]", "[1,]",
    "[1][2]", "[] []", "[[1][2]]", "[[] [] ", "(1)", "()", "{}", "{1}", "[1)", "[1}", "(list 1)", "[a]", "[(list)]", "[True]", "True",
    "None", "1\n", "\n1", "\t1", "[1\t2]", "[1\n2]", "[[[[[[]]]]]]", "[[[[[[1]]]]]]", "[" + " ".join("0" * 51) + "]", "9" * 61,
    "-" + "9" * 61, "0" * 61, "'\u00e9", "\u0661", "[\u0661]", "1\u00a02", "[1\u00a02]", "'a\x00", "\ud800", "1\r", "[-]", "[1-2]", "1-2", "-'a",
    "[1'a]", "['a'b]", "[1[2]]", "-[]", "'[]", "'(", "1[]", "[]1",
]
NO_TEXTS_OF_PROGRAMS = [
    " ", "()", "(let)", "(let a)", "(let a )", "(let a 1", "let a 1", "(let a 1))", "((let a 1)", "((let a 1))", "{(let a 1)}", "[(let a 1)]",
    "(let a 1)(let b 2)", "(let a 1)  (let b 2)", " (let a 1)", "(let a 1) ", "( let a 1)", "(let  a 1)", "(let a  1)", "(let a 1 )",
    "(let a 1 2)", "(let A 1)", "(let a1 1)", "(let a A)", "(let 'a 1)", "(let 1 1)", "(let abcdefghijklm 1)", "(stop)", "(Let a 1)",
    "(let a 01)", "(let a -0)", "(let a +1)", "(let a (add 1))", "(let a (add 1 2 3))", "(let a (add 1 2)", "(let a add 1 2)", "(let a [add 1 2])",
    "(let a {add 1 2})", "(let a ())", "(let a (value 1))", "(let a (value a))", "(let a (name a))", "(let a (name 'a))", "(let a (list 1 ))",
    "(let a ( list))", "(let a (list  1))", "(let a (1 2))", "(let a ((add) 1 2))", "((let) a 1)", "(let (a) 1)", "(let [a] 1)",
    "(if a {} )", "(if a {})", "(if a {} {} {})", "(if a () {})", "(if a [] {})", "(if a {}{})", "(if a{} {})", "(if a { } {})", "(if a {1} {})",
    "(if a {a} {})", "(if a {()} {})", "(if a {(let b 1) } {})", "(if a {(let b 1)(let c 1)} {})", "(if a {{}} {})", "(each x [1] (let a 1))",
    "(while 1)", "(while 1 {)}", "(while 1 {(let a 1}))", "(try {})", "(try {} {} {})", "(try () ())", "(define f {} {})", "(define f [1] {})",
    "(define f ['a] {})", "(define f [a a] {})", "(define f [a,b] {})", "(define f (a) {})", "(define f a {})", "(define f [ ] {})",
    "(define f [a b c d e g h] {})", "(define f [[]] {})", "(call a f [])", "(define f [] {(call a f [])})",
    "(define f [] {}) (call a f [1])", "(define f [] {}) (call a f ())", "(define f [] {}) (call a f {})", "(define f [] {}) (call a f)",
    "(define f [] {}) (define f [] {})", "(if 1 {(define f [] {})} {})", "(define f [a] {}) (call a f 1)", "(define f [a] {}) (call a f [1 ])",
    "(define f [a] {}) (call a f [(let a 1)])", "(let a 1)\n(let b 2)", "(let a 1)\n", "(let\ta 1)", "(let a\u00a01)", "(let a \u0661)",
    "(let a 'A)", "(let a '" + "a" * 61 + ")", "(let a " + "9" * 61 + ")", "(delete)", "(delete a b)", "(return)", "(refuse 1 2)",
    "(let a [[[[[[]]]]]])", "(let a [a])", "(let a [(add 1 2)])", "(let a (list" + " 1" * 11 + "))", ")", "(", "}", "{", "]", "[", ")(", "(]",
    " ".join(["(let a 1)"] * 101), "(try {" * 6 + "} {})" * 6, "(let a " + "(size " * 8 + "a" + ")" * 8 + ")", "a", "1", "'a", "let",
]


def deepest_program():
    """Return a program with brackets that are nested as deep as can be."""
    expression = v((((((7,),),),),))
    for turn in range(7):
        expression = ("size", expression)
    block = (("call", "c", "f", (expression,)),)
    for turn in range(5):
        block = (("try", block, ()),)
    return (("define", "f", ("a",), ()),) + block


class Case(unittest.TestCase):
    def check_refused(self, parse, text):
        with self.assertRaises(ParseError) as caught:
            parse(text)
        self.assertTrue(caught.exception.text is text)

    def check_read(self, parse, write_again, text):
        """Return a list of what a text is read as, which must have this text, or an empty list if it is refused."""
        try:
            told = parse(text)
        except ParseError as error:
            self.assertTrue(error.text is text)
            return []
        self.assertEqual(write_again(told), text)
        return [told]


class ValuesTest(Case):
    def test_examples(self):
        self.assertEqual(format_value((1, "ab", ())), "[1 'ab []]")

    def test_there_and_back(self):
        for value, text in VALUES:
            self.assertEqual(format_value(value), text)
            self.assertTrue(are_equal(parse_value(text), value), text)
        self.assertEqual((format_value(value=1), parse_value(text="1")), ("1", 1))

    def test_no_values(self):
        for wrong in STRANGE + WRONG_VALUES:
            with self.assertRaises(InvalidState) as caught:
                format_value(wrong)
            self.assertTrue(caught.exception.value is wrong)

    def test_no_texts_of_values(self):
        for text in NO_TEXTS_OF_VALUES:
            self.check_refused(parse_value, text)

    def test_all_short_texts(self):
        signs = "01-a'[] "
        texts = [""]
        for turn in range(4):
            texts += [text + sign for text in texts if len(text) == turn for sign in signs]
        found = []
        for text in texts:
            found += self.check_read(parse_value, format_value, text)
        self.assertTrue(all(is_value(value) for value in found))
        wanted = 2 + 2 + 4 + 8 + 1 + 2 + 4  # 0, 1 and -1, then 1 with more digits, each with its sign
        plain = [value for value in found if isinstance(value, int)]
        self.assertEqual(sorted(plain), list(range(-111, -110)) + [-110, -101, -100, -11, -10, -1, 0, 1, 10, 11, 100, 101, 110, 111] + [
            1000, 1001, 1010, 1011, 1100, 1101, 1110, 1111])
        self.assertEqual(len(plain), wanted)

    def test_random_values(self):
        chooser = random.Random(101)

        def value(depth):
            kind = chooser.randrange(4 if depth else 2)
            if kind == 0:
                return chooser.randrange(-10 ** chooser.randrange(1, 60), 10 ** chooser.randrange(1, 60))
            if kind == 1:
                return "".join(chooser.choice("abz019") for turn in range(chooser.randrange(6)))
            return tuple(value(depth - 1) for turn in range(chooser.randrange(3)))

        for turn in range(2000):
            made = value(5)
            if is_value(made):
                self.assertTrue(are_equal(parse_value(format_value(made)), made))

    def test_one_sign_changed(self):
        chooser = random.Random(103)
        for value, text in VALUES * 3:
            for index in range(len(text) + 1):
                for changed in changes_of(text, index, chooser.choice("[]()'- a0A")):
                    self.check_read(parse_value, format_value, changed)

    def test_too_many_digits(self):
        for count in (61, 4299, 4301, 10 ** 6):
            for text in ("9" * count, "-" + "9" * count, "[" + "9" * count + "]", "0" * count, "1" + "0" * count):
                self.check_refused(parse_value, text)
                self.check_refused(parse_program, "(let a " + text + ")")

    def test_too_deep_brackets(self):
        for count in (6, 7, 29, 30, 31, 1000, 10 ** 5):
            for opening, closing in (("[", "]"), ("(", ")"), ("{", "}"), ("[ ", " ]"), ("[1 ", "]")):
                for text in (opening * count + closing * count, opening * count, closing * count, opening * count + "1" + closing * count):
                    self.check_refused(parse_value, text)
                    self.check_refused(parse_program, text)

    def test_no_strings(self):
        for wrong in STRANGE + [0, 1, (), (1,), {}, ["1"], b"1", ("1",)]:
            self.check_refused(parse_value, wrong)
            self.check_refused(parse_program, wrong)


def changes_of(text, index, sign):
    """Return texts in which one sign is put in, left out, doubled or another one."""
    before, behind = text[:index], text[index:]
    return [before + sign + behind, before + behind[1:], before + behind[:1] + behind, before + sign + behind[1:]]


class ProgramsTest(Case):
    def test_there_and_back(self):
        for program, text in PROGRAMS:
            self.assertEqual(format_program(program), text)
            self.assertTrue(are_equal(parse_program(text), program), text)
        self.assertEqual((format_program(program=SUM), parse_program(text="")), (PROGRAMS[3][1], ()))

    def test_largest_programs(self):
        calls = (("define", "f", tuple("abcdef"), ()), ("call", "c", "f", (v((0,) * 50),) * 6))
        for program in (deepest_program(), (let("a", v(1)),) * 100, (let("a", ("list",) + (n("a"),) * 10),), calls, steps_program(150),
                        (let("a" * 12, n("b" * 12)),), (let("a", v("x" * 60)), let("a", v(-LARGEST)))):
            check_program(program)
            self.assertTrue(are_equal(parse_program(format_program(program)), program))

    def test_deepest_brackets(self):
        text = format_program(deepest_program())
        depths = [text[:index].count("(") + text[:index].count("[") + text[:index].count("{") - text[:index].count(")") - text[
            :index].count("]") - text[:index].count("}") for index in range(len(text))]
        self.assertEqual(max(depths), 24)

    def test_no_programs(self):
        for wrong, place in [(value, ()) for value in STRANGE] + [((5,), (0,)), (SUM + (("if", v(1), (), (("stop",),)),), (4, "else", 0)), (
                (let("a", ("value", True)),), (0,)), ([], ())]:
            with self.assertRaises(InvalidProgram) as caught:
                format_program(wrong)
            self.assertEqual(caught.exception.place, place)

    def test_no_texts_of_programs(self):
        for text in NO_TEXTS_OF_PROGRAMS:
            self.check_refused(parse_program, text)

    def test_parts_left_out_or_doubled(self):
        # Each part of each text, left out or put in once more, leaves no text of this program.
        for program, text in PROGRAMS[1:]:
            words = text.split(" ")
            for index in range(len(words)):
                for changed in (words[:index] + words[index + 1:], words[:index + 1] + words[index:]):
                    for told in self.check_read(parse_program, format_program, " ".join(changed)):
                        self.assertFalse(are_equal(told, program))

    def test_one_sign_changed(self):
        chooser = random.Random(107)
        count = read_count = 0
        for program, text in PROGRAMS:
            for index in range(len(text) + 1):
                for changed in changes_of(text, index, chooser.choice("[](){}'- a0A\n")):
                    count += 1
                    read_count += len(self.check_read(parse_program, format_program, changed))
        self.assertTrue(100 < read_count < count - 1000)

    def test_random_programs(self):
        maker = Maker(random.Random(109))
        for turn in range(300):
            program = maker.program(maker.random.randrange(60))
            text = format_program(program)
            self.assertTrue(are_equal(parse_program(text), program))
            self.assertFalse("  " in text or "( " in text or " )" in text)

    def test_long_texts(self):
        begin = time.process_time()
        for text in ("(let a 1) " * 10 ** 5, "a " * 10 ** 5, "(let a [" + "1 " * 10 ** 5 + "])", "(" * 10 ** 5 + "a " * 10 ** 5, "'" + "a" * 10 ** 6,
                     "(let a " + " " * 10 ** 6 + "1)", "[] " * 10 ** 5):
            self.check_refused(parse_program, text)
            self.check_refused(parse_value, text)
        self.assertTrue(time.process_time() - begin < 10)

    def test_words_that_stand_anywhere(self):
        for name in ("let", "value", "name", "list", "then", "define"):
            program = (let(name, n(name)), write(name, name), ("scan", name, n(name), (read(name, n(name)),)))
            self.assertEqual(parse_program(format_program(program)), program)


if __name__ == "__main__":
    unittest.main()
