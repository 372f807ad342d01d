"""The texts of models (points 180 to 182)."""

import random
import unittest

from tests.samples import GOOD, N, ONE, SITE_MODEL, SKIP, nested, nested_if, random_model, with_program, with_value
from tests.worlds import crowded_model
from vancourier.errors import BadModel
from vancourier.forms import check_model
from vancourier.notation import model_text, parse_model

GOOD_TEXT = """end 50
kind box
field count -5 9
field debt 0 7
on tell
set count add .count arg
send add self 1 mod now 7 tell .count
if less .count 5
skip
set debt not .debt
else
send 0 3 nobody div arg 2
done
on rest
skip
kind wall
field count 3 3
object box
object wall
object box
start 0 0 tell 5
start 50 2 nobody -999"""

DOCUMENTED = "end 9\nkind box\nfield n 0 9\non go\nset n add .n arg\nobject box\nstart 0 0 go 5"

# Each expression with its text.
EXPRESSIONS = (
    (("int", 0), "0"),
    (("int", 999), "999"),
    (("int", -999), "-999"),
    (("int", -10), "-10"),
    (N, ".n"),
    (("arg",), "arg"),
    (("now",), "now"),
    (("self",), "self"),
    (("add", ONE, N), "add 1 .n"),
    (("sub", ("int", -1), ("arg",)), "sub -1 arg"),
    (("mul", ("now",), ("self",)), "mul now self"),
    (("min", ONE, ("int", 2)), "min 1 2"),
    (("max", ONE, ("int", 2)), "max 1 2"),
    (("div", N, 1), "div .n 1"),
    (("mod", N, 999), "mod .n 999"),
    (("less", N, ONE), "less .n 1"),
    (("same", N, ONE), "same .n 1"),
    (("both", N, ONE), "both .n 1"),
    (("either", N, ONE), "either .n 1"),
    (("not", N), "not .n"),
    (("not", ("not", ("not", ONE))), "not not not 1"),
    (("add", ("add", ONE, ("int", 2)), ("int", 3)), "add add 1 2 3"),
    (("add", ONE, ("add", ("int", 2), ("int", 3))), "add 1 add 2 3"),
    (("mod", ("div", ("mul", N, N), 7), 5), "mod div mul .n .n 7 5"),
    (("less", ("div", N, 7), ("mod", N, 5)), "less div .n 7 mod .n 5"),
    (("either", ("both", ("same", N, ONE), ("not", N)), ("max", ("min", ONE, N), ("arg",))),
     "either both same .n 1 not .n max min 1 .n arg"),
)


def text_of(*lines):
    """Returns the text of a model whose handler `go` has the lines."""
    return "\n".join(("end 50", "kind box", "field n -1000000 1000000", "on go") + lines + ("object box",))


class TextTest(unittest.TestCase):
    def check_both(self, model, text):
        self.assertEqual(model_text(check_model(model)), text)
        self.assertEqual(parse_model(text), model)

    def test_the_documented_text(self):
        program = (("set", "n", ("add", N, ("arg",))),)
        model = ((("box", (("n", 0, 9),), (("go", program),)),), ("box",), ((0, 0, "go", 5),), 9)
        self.check_both(model, DOCUMENTED)

    def test_kinds_handlers_and_start_events(self):
        self.check_both(GOOD, GOOD_TEXT)

    def test_expressions(self):
        for e, text in EXPRESSIONS:
            with self.subTest(text=text):
                self.check_both(with_value(e), text_of(f"set n {text}"))

    def test_send(self):
        for target, target_text in EXPRESSIONS[::4]:
            for delay, delay_text in EXPRESSIONS[1::6]:
                for arg, arg_text in EXPRESSIONS[2::5]:
                    model = with_program((("send", target, delay, "now", arg),))
                    self.check_both(model, text_of(f"send {target_text} {delay_text} now {arg_text}"))

    def test_skip(self):
        self.check_both(with_program((SKIP,)), text_of("skip"))
        self.check_both(with_program((SKIP, SKIP)), text_of("skip", "skip"))

    def test_if(self):
        one, two = ("set", "n", ONE), ("set", "n", ("int", 2))
        self.check_both(with_program((("if", N, (one, two), (SKIP,)), two)),
                        text_of("if .n", "set n 1", "set n 2", "else", "skip", "done", "set n 2"))
        inner = ("if", ("arg",), (one,), (two,))
        self.check_both(with_program((("if", N, (inner, one), (SKIP, inner)),)), text_of(
            "if .n", "if arg", "set n 1", "else", "set n 2", "done", "set n 1",
            "else", "skip", "if arg", "set n 1", "else", "set n 2", "done", "done"))

    def test_no_handlers_and_no_start_events(self):
        model = ((("a", (("b", -1000000, -999999),), ()),), ("a",), (), 0)
        self.check_both(model, "end 0\nkind a\nfield b -1000000 -999999\nobject a")

    def test_words_of_the_text_as_names(self):
        program = (("set", "set", ("field", "arg")), ("send", ("field", "if"), ONE, "done", ("field", "set")))
        kinds = (("kind", (("set", 0, 1), ("arg", 0, 1), ("if", 0, 1)), (("on", program), ("else", program))),
                 ("object", (("field", 0, 0),), (("start", (SKIP,)), ("skip", (SKIP,)))))
        model = (kinds, ("object", "kind"), ((0, 0, "start", 0), (0, 1, "end", -1)), 1)
        lines = ("set set .arg", "send .if 1 done .set")
        self.check_both(model, "\n".join((
            "end 1", "kind kind", "field set 0 1", "field arg 0 1", "field if 0 1", "on on") + lines + ("on else",) + lines
            + ("kind object", "field field 0 0", "on start", "skip", "on skip", "skip", "object object", "object kind",
               "start 0 0 start 0", "start 0 1 end -1")))

    def test_the_deepest_models(self):
        inner = with_program(nested_if(6, (("set", "n", N),)))
        for model in (inner, with_program(nested_if(6, (("send", N, N, "go", N), SKIP))),
                      with_program(nested_if(7, (SKIP,)))):
            self.assertEqual(parse_model(model_text(check_model(model))), model)
        for word in ("not {}", "div {} 5", "mod {} 5", "add {} 1", "less 1 {}"):
            text = "1"
            for _ in range(6):
                text = word.format(text)
            self.assertEqual(model_text(parse_model(text_of(f"set n {text}"))), text_of(f"set n {text}"))
            with self.assertRaises(BadModel):
                parse_model(text_of(f"set n {word.format(text)}"))

    def test_the_longest_names_and_the_most_of_all(self):
        names = ["abcdefghijkl"[:length] for length in (12, 11, 2, 1)]
        program = tuple(("send", ONE, ONE, name, ONE) for name in names) + (SKIP,) * 64
        kinds = tuple((name, tuple((field, -1000000, 1000000) for field in names), tuple((on, program) for on in names))
                      for name in names)
        model = check_model((kinds, (names[0],) * 8, ((1000, 7, names[0], -999),) * 12, 1000))
        self.assertEqual(parse_model(model_text(model)), model)

    def test_random_models(self):
        for seed in range(60):
            chance = random.Random(seed)
            for model in (random_model(chance), crowded_model(chance)):
                self.assertEqual(parse_model(model_text(model)), model)

    def test_a_text_somewhat_beyond_the_limits(self):
        model = ((("box", (("n", 0, 5000000),), (("go", (("set", "n", ("int", -12345)),)),)),), ("box",), (), 2000)
        self.assertEqual(model_text(model), "end 2000\nkind box\nfield n 0 5000000\non go\nset n -12345\nobject box")
        deep = with_value(nested(12))
        self.assertEqual(model_text(deep), text_of("set n " + "not " * 11 + "1"))


class WrongTextTest(unittest.TestCase):
    def check_bad(self, *texts):
        for text in texts:
            with self.subTest(text=text if len(str(text)) < 900 else "long"), self.assertRaises(BadModel):
                parse_model(text)

    def test_no_strings(self):
        self.check_bad(None, 0, True, b"", DOCUMENTED.encode(), [DOCUMENTED], DOCUMENTED.split("\n"), (), GOOD, {}, 1.0)

    def test_nearly_empty_texts(self):
        self.check_bad("", " ", "\n", "end", "end ", "end 9", "end 9\n", "\n" + DOCUMENTED, "model", "9")

    def test_more_at_the_end(self):
        for text in (DOCUMENTED, GOOD_TEXT):
            self.check_bad(text + "\n", text + " ", text + "\r\n", text + "\n\n", text + "\nend 9", text + "\n# more",
                           text + " 5", text + "\nskip", text + "\nobject box", text + "\n" + text, text + "\0")

    def test_blanks(self):
        for text in (DOCUMENTED, GOOD_TEXT):
            for index, sign in enumerate(text):
                if sign in " \n":
                    self.check_bad(*[text[:index] + new + text[index + 1:] for new in (
                        "  ", " \n", "\n ", "\n\n", "", "\t", "\r\n", "\r", "_", "\x0b", "\xa0", "\u2028")])
                    self.check_bad(text[:index] + ("\n" if sign == " " else " ") + text[index + 1:])
            self.check_bad(" " + text)

    def test_missing_lines(self):
        lines = GOOD_TEXT.split("\n")
        for index, line in enumerate(lines):
            text = "\n".join(lines[:index] + lines[index + 1:])
            # Without `on rest` its program belongs to the handler before.
            if line in ("set count add .count arg", "send add self 1 mod now 7 tell .count", "set debt not .debt",
                        "on rest") or line.startswith("start") or index == lines.index("skip"):
                self.assertEqual(model_text(parse_model(text)), text)
            else:
                self.check_bad(text)
        lines = DOCUMENTED.split("\n")
        for index in range(len(lines) - 1):
            self.check_bad("\n".join(lines[:index] + lines[index + 1:]))

    def test_lines_in_another_order(self):
        lines = DOCUMENTED.split("\n")
        for index in range(len(lines) - 1):
            self.check_bad("\n".join(lines[:index] + [lines[index + 1], lines[index]] + lines[index + 2:]))
        lines = GOOD_TEXT.split("\n")
        self.check_bad("\n".join(lines[::-1]), "\n".join(lines[1:] + lines[:1]), "\n".join(lines[-2:] + lines[:-2]))

    def test_lines_twice(self):
        for line in ("end 9", "kind box", "field n 0 9", "on go"):
            self.check_bad(DOCUMENTED.replace(line, line + "\n" + line))
        self.check_bad(GOOD_TEXT.replace("else", "else\nelse"), GOOD_TEXT.replace("done", "done\ndone"))

    def test_integers(self):
        wrong = ("00", "07", "-0", "-00", "-07", "+5", "+0", "-", "--5", "5-", "", "5.0", "0x5", "5_0", "1e1", "five",
                 "\u0665", "\u00b2", "\uff15", " 5", "9" * 5000, "-" + "9" * 5000, ".5", "5,", "True", "None", "arg")
        for new in wrong:
            self.check_bad(
                DOCUMENTED.replace("end 9", f"end {new}"), DOCUMENTED.replace("n 0", f"n {new}"),
                DOCUMENTED.replace("0 9", f"0 {new}"), DOCUMENTED.replace("start 0", f"start {new}"),
                DOCUMENTED.replace("0 go", f"{new} go"), DOCUMENTED.replace("go 5", f"go {new}"))
            if new != "arg":
                self.check_bad(text_of(f"set n {new}"), text_of(f"set n add {new} 1"))
            self.check_bad(text_of(f"set n mod .n {new}"), text_of(f"send 1 1 go div arg {new}"))

    def test_integers_out_of_their_limits(self):
        self.check_bad(
            DOCUMENTED.replace("end 9", "end 1001"), DOCUMENTED.replace("end 9", "end -1"),
            DOCUMENTED.replace("0 9", "-1000001 9"), DOCUMENTED.replace("0 9", "0 1000001"),
            DOCUMENTED.replace("0 9", "9 0"), DOCUMENTED.replace("start 0 0", "start 10 0"),
            DOCUMENTED.replace("start 0 0", "start 0 1"), DOCUMENTED.replace("go 5", "go 1000"),
            DOCUMENTED.replace("go 5", "go -1000"), text_of("set n 1000"), text_of("set n -1000"),
            text_of("set n div .n 0"), text_of("set n mod .n 1000"), text_of("set n mod .n -1"))

    def test_names(self):
        for new in ("", "A", "Box", "b1", "b_x", "abcdefghijklm", ".n", "5", "b-x", "\u00e9"):
            self.check_bad(DOCUMENTED.replace("box", new), DOCUMENTED.replace("field n", f"field {new}"),
                           DOCUMENTED.replace("on go", f"on {new}"), DOCUMENTED.replace("0 go", f"0 {new}"),
                           text_of(f"send 1 1 {new} 1"), text_of(f"set {new} 1"), text_of(f"set n .{new}"))
        self.check_bad(DOCUMENTED.replace("object box", "object wall"), text_of("set m 1"), text_of("set n .m"),
                       text_of("set n ."), text_of("set n n"), text_of("set n ..n"))

    def test_statements_and_expressions(self):
        self.check_bad(
            text_of(), text_of("skip skip"), text_of("skip 1"), text_of("Skip"), text_of("set n"), text_of("set n 1 2"),
            text_of("set n add 1"), text_of("set n add 1 2 3"), text_of("set n not"), text_of("set n not 1 2"),
            text_of("set n mod 5"), text_of("set n mod 5 .n"), text_of("set n div 5 add 1 1"), text_of("set n int 5"),
            text_of("set n field n"), text_of("set n (add 1 2)"), text_of("set n 1 add 2"), text_of("set n pow 1 2"),
            text_of("set n arg arg"), text_of("send"), text_of("send 1 1 go"), text_of("send 1 go 1"),
            text_of("send 1 1 1 go"), text_of("send 1 1 go 1 1"), text_of("send go 1 1 1"), text_of("sent 1 1 go 1"))

    def test_if(self):
        self.check_bad(
            text_of("if 1"), text_of("if 1", "skip"), text_of("if 1", "skip", "else"), text_of("if 1", "else", "done"),
            text_of("if 1", "skip", "done"), text_of("if 1", "skip", "else", "done"), text_of("if 1", "skip", "else", "skip"),
            text_of("if 1", "else", "skip", "done"), text_of("if", "skip", "else", "skip", "done"),
            text_of("if 1 2", "skip", "else", "skip", "done"), text_of("else", "skip", "done"), text_of("done"),
            text_of("if 1", "skip", "else", "skip", "else", "skip", "done"), text_of("if 1 skip else skip done"),
            text_of("if 1", "skip", "else", "skip", "done", "done"), text_of("if 1", "skip", "else", "skip", "end"))
        self.assertEqual(parse_model(text_of("if 1", "skip", "else", "skip", "done"))[3], 50)

    def test_too_much(self):
        self.check_bad(text_of(*["skip"] * 81), text_of(*["send 1 1 go 1"] * 5), text_of("set n " + "not " * 7 + "1"),
                       model_text(with_program(nested_if(8, (SKIP,)))))
        self.assertEqual(parse_model(text_of("set n " + "not " * 6 + "1")), with_value(nested(7)))

    def test_endless_nesting(self):
        for many in (10, 300, 1000, 100000):
            self.check_bad(text_of("set n " + "not " * many + "1"), text_of("set n " + "add " * many + "1"),
                           text_of("set n " + "mod " * many), text_of("set n " + "mod " * many + "1" + " 5" * many),
                           text_of("set n " + "add 1 " * many + "1"), text_of("send " + "max 1 " * many + "1"), text_of(*["if 1"] * many),
                           text_of(*["if 1", "skip", "else"] * many), "end " * many, "kind " * many)

    def test_beginnings_of_texts(self):
        fine = 0
        for index in range(len(GOOD_TEXT)):
            fine += self.check_change(GOOD_TEXT, GOOD_TEXT[:index])
        # Behind each object, behind the first start event, and with one or two digits of the last number.
        self.assertEqual(fine, 6)

    def test_texts_with_one_change(self):
        chance = random.Random(1)
        signs = " \n-+.0159abdegiknostx#\t\r"
        fine = 0
        for text in (DOCUMENTED, GOOD_TEXT):
            for index in range(len(text) + 1):
                for new in [""] + [chance.choice(signs) for _ in range(8)]:
                    for end in (index, index + 1):
                        fine += self.check_change(text, text[:index] + new + text[end:])
        self.assertGreater(fine, 100)

    def check_change(self, text, changed):
        try:
            model = parse_model(changed)
        except BadModel:
            self.assertNotEqual(changed, text)
            return False
        self.assertEqual(model_text(check_model(model)), changed)
        return True


if __name__ == "__main__":
    unittest.main()
