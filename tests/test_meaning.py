import unittest

from tests.samples import GOOD, ONE, SKIP, with_program
from vancourier.forms import LIMIT, check_model
from vancourier.meaning import run_handler

N = ("field", "n")
M = ("field", "m")
FIELDS = (("n", -1000000, 1000000), ("m", -1000000, 1000000), ("out", -1000000, 1000000))


def lit(n):
    return ("int", n)


def shown(e, n=0, m=0, me=0, time=0, arg=0):
    """Returns what a handler sets a field to, if it sets the field to the expression."""
    model = ((("box", FIELDS, (("go", (("set", "out", e),)),)),), ("box",) * 8, (), 50)
    check_model(model)
    return run_handler(model, me, (n, m, 0), time, "go", arg)[0][2]


def value(e, n=0, m=0, me=0, time=0, arg=0):
    """Returns the value of an expression in three parts, as it may be too great for a field."""
    high = ("div", ("div", e, 999), 999)
    mid = ("mod", ("div", e, 999), 999)
    low = ("mod", e, 999)
    parts = [shown(part, n, m, me, time, arg) for part in (high, mid, low)]
    return (parts[0] * 999 + parts[1]) * 999 + parts[2]


def run_go(program, state=(0,), objects=2, number=0, time=0, arg=0):
    model = with_program(program, ("box",) * objects)
    check_model(model)
    return run_handler(model, number, state, time, "go", arg)


def sent(target=lit(0), delay=ONE, arg=lit(0), name="go", objects=2, number=0, time=0, given=0):
    """Returns the event of one send statement."""
    state, sends = run_go((("send", target, delay, name, arg),), (0,), objects, number, time, given)
    if state != (0,) or len(sends) != 1:
        raise AssertionError((state, sends))
    return sends[0]


class LeavesTest(unittest.TestCase):
    def test_int(self):
        for n in (-999, -1, 0, 1, 999):
            self.assertEqual(value(lit(n)), n)

    def test_field(self):
        self.assertEqual(value(N, n=-1000000, m=3), -1000000)
        self.assertEqual(value(M, n=-1000000, m=3), 3)

    def test_arg(self):
        for arg in (-999, 0, 999):
            self.assertEqual(value(("arg",), arg=arg), arg)

    def test_now(self):
        for time in (0, 7, 50):
            self.assertEqual(value(("now",), time=time), time)

    def test_self(self):
        for me in (0, 3, 7):
            self.assertEqual(value(("self",), me=me), me)


class OperatorsTest(unittest.TestCase):
    def assert_values(self, rows):
        for word, a, b, expected in rows:
            with self.subTest(word=word, a=a, b=b):
                self.assertEqual(value((word, N, M), n=a, m=b), expected)

    def test_add_sub_mul(self):
        self.assert_values((("add", 5, 3, 8), ("add", 5, -8, -3), ("add", 0, 0, 0),
                            ("sub", 5, 3, 2), ("sub", 3, 5, -2), ("sub", -3, -5, 2),
                            ("mul", 5, 3, 15), ("mul", -5, 3, -15), ("mul", -5, -3, 15), ("mul", 0, 9, 0)))

    def test_min_max(self):
        self.assert_values((("min", 5, 3, 3), ("min", 3, 5, 3), ("min", -5, -3, -5), ("min", 4, 4, 4),
                            ("max", 5, 3, 5), ("max", 3, 5, 5), ("max", -5, -3, -3), ("max", 4, 4, 4)))

    def test_less_same(self):
        self.assert_values((("less", 3, 5, 1), ("less", 5, 3, 0), ("less", 4, 4, 0), ("less", -5, -4, 1),
                            ("same", 4, 4, 1), ("same", 4, 5, 0), ("same", -4, 4, 0), ("same", 0, 0, 1)))

    def test_both_either(self):
        self.assert_values((("both", 0, 0, 0), ("both", 0, 2, 0), ("both", -2, 0, 0), ("both", -2, 3, 1),
                            ("either", 0, 0, 0), ("either", 0, 2, 1), ("either", -2, 0, 1), ("either", -2, 3, 1)))

    def test_not(self):
        for n, expected in ((0, 1), (1, 0), (-1, 0), (5, 0)):
            self.assertEqual(value(("not", N), n=n), expected)

    def test_div_rounds_down(self):
        for n, divisor, expected in ((7, 2, 3), (-7, 2, -4), (-8, 2, -4), (-1, 999, -1), (0, 5, 0), (998, 999, 0),
                                     (999, 999, 1), (-7, 1, -7), (7, 1, 7)):
            with self.subTest(n=n, divisor=divisor):
                self.assertEqual(shown(("div", N, divisor), n=n), expected)

    def test_mod_is_never_negative(self):
        for n, divisor, expected in ((7, 2, 1), (-7, 2, 1), (-8, 3, 1), (-1, 999, 998), (0, 5, 0), (998, 999, 998),
                                     (999, 999, 0), (-7, 1, 0), (7, 1, 0)):
            with self.subTest(n=n, divisor=divisor):
                self.assertEqual(shown(("mod", N, divisor), n=n), expected)

    def test_values_are_integers_and_not_truth_values(self):
        for e in (("less", N, ONE), ("same", N, ONE), ("both", N, ONE), ("either", N, ONE), ("not", N)):
            for n in (0, 1):
                self.assertIs(type(shown(e, n=n)), int)

    def test_nested_operators(self):
        e = ("sub", ("mul", ("add", N, ONE), M), ("max", ("div", M, 2), ("not", ("arg",))))
        self.assertEqual(value(e, n=4, m=7, arg=3), 5 * 7 - 3)
        self.assertEqual(value(e, n=4, m=1, arg=0), 5 * 1 - 1)


class LimitTest(unittest.TestCase):
    def test_values_at_the_limit_are_kept(self):
        for m in (1000, -1000):
            self.assertEqual(value(("mul", N, M), n=1000000, m=m), 1000000 * m)
        self.assertEqual(value(("add", ("mul", N, M), lit(-1)), n=1000000, m=1000), LIMIT - 1)
        self.assertEqual(value(("add", ("mul", N, M), lit(1)), n=1000000, m=-1000), 1 - LIMIT)

    def test_values_beyond_the_limit_are_replaced(self):
        for n, m, expected in ((1000000, 1001, LIMIT), (1000000, -1001, -LIMIT), (-1000000, -1000000, LIMIT),
                               (1000000, 1000000, LIMIT), (-1000000, 1000000, -LIMIT)):
            with self.subTest(n=n, m=m):
                self.assertEqual(value(("mul", N, M), n=n, m=m), expected)
        self.assertEqual(value(("add", ("mul", N, M), ONE), n=1000000, m=1000), LIMIT)
        self.assertEqual(value(("sub", ("mul", N, M), ONE), n=1000000, m=-1000), -LIMIT)

    def test_each_operator_applies_the_limit_to_its_own_result(self):
        great = ("mul", N, N)
        self.assertEqual(value(("sub", ("add", great, great), great), n=1000000), 0)
        self.assertEqual(value(("sub", ("add", great, lit(5)), lit(5)), n=1000000), LIMIT - 5)
        self.assertEqual(value(("add", ("sub", ("sub", lit(0), great), lit(5)), lit(5)), n=1000000), 5 - LIMIT)
        self.assertEqual(shown(("same", ("mul", great, N), great), n=1000000), 1)
        self.assertEqual(shown(("less", great, ("add", great, ONE)), n=1000000), 0)

    def test_operators_with_operands_at_the_limit(self):
        great = ("mul", N, N)
        small = ("mul", N, ("sub", lit(0), N))
        for word, expected in (("min", -LIMIT), ("max", LIMIT), ("add", 0), ("sub", LIMIT), ("mul", -LIMIT),
                               ("less", 0), ("same", 0), ("both", 1), ("either", 1)):
            with self.subTest(word=word):
                self.assertEqual(value((word, great, small), n=1000000), expected)
        for e, expected in ((("div", great, 7), LIMIT // 7), (("div", small, 7), -LIMIT // 7), (("not", small), 0),
                            (("mod", great, 7), LIMIT % 7), (("mod", small, 7), -LIMIT % 7)):
            with self.subTest(e=e):
                self.assertEqual(value(e, n=1000000), expected)
        self.assertEqual(value(("div", great, 1), n=1000000), LIMIT)
        self.assertEqual(value(("div", small, 1), n=1000000), -LIMIT)


class SetTest(unittest.TestCase):
    def run_set(self, low, high, e, state):
        model = ((("box", (("n", low, high),), (("go", (("set", "n", e),)),)),), ("box",), (), 50)
        return run_handler(check_model(model), 0, state, 0, "go", 0)

    def test_values_in_the_range_and_at_its_ends(self):
        for n in (-3, 0, 5, 8):
            self.assertEqual(self.run_set(-3, 8, lit(n), (1,)), ((n,), []))

    def test_values_beyond_the_ends_are_replaced_by_the_nearest_end(self):
        for low, high, n, expected in ((-3, 8, 9, 8), (-3, 8, 999, 8), (-3, 8, -4, -3), (-3, 8, -999, -3),
                                       (4, 6, 0, 4), (-6, -4, 0, -4), (5, 5, 0, 5), (5, 5, 9, 5)):
            with self.subTest(low=low, high=high, n=n):
                self.assertEqual(self.run_set(low, high, lit(n), (low,)), ((expected,), []))

    def test_other_fields_stay_as_they_are(self):
        model = ((("box", FIELDS, (("go", (("set", "m", lit(4)),)),)),), ("box",), (), 50)
        self.assertEqual(run_handler(model, 0, (1, 2, 3), 0, "go", 0), ((1, 4, 3), []))

    def test_an_expression_reads_what_a_statement_before_has_set(self):
        program = (("set", "n", ("add", N, ONE)), ("set", "m", ("mul", N, lit(10))), ("set", "n", ("add", M, N)))
        model = ((("box", FIELDS, (("go", program),)),), ("box",), (), 50)
        self.assertEqual(run_handler(check_model(model), 0, (4, 0, 9), 0, "go", 0), ((55, 50, 9), []))

    def test_a_field_is_read_within_its_range_after_it_was_set(self):
        program = (("set", "n", lit(99)), ("send", lit(0), ONE, "go", N))
        model = ((("box", (("n", 0, 9),), (("go", program),)),), ("box",), (), 50)
        self.assertEqual(run_handler(check_model(model), 0, (0,), 0, "go", 0), ((9,), [(1, 0, "go", 9)]))


class SendTest(unittest.TestCase):
    def test_ordinary_send(self):
        self.assertEqual(sent(lit(1), lit(3), lit(7), "tell", time=10), (13, 1, "tell", 7))

    def test_target_is_a_remainder(self):
        for target, objects, expected in ((0, 3, 0), (2, 3, 2), (3, 3, 0), (4, 3, 1), (-1, 3, 2), (-3, 3, 0),
                                          (-4, 3, 2), (999, 8, 7), (-999, 8, 1), (5, 1, 0), (-5, 1, 0)):
            with self.subTest(target=target, objects=objects):
                self.assertEqual(sent(lit(target), objects=objects)[1], expected)

    def test_delay_is_from_1_to_20(self):
        for delay, expected in ((-999, 1), (-1, 1), (0, 1), (1, 1), (2, 2), (19, 19), (20, 20), (21, 20), (999, 20)):
            with self.subTest(delay=delay):
                self.assertEqual(sent(delay=lit(delay))[0], expected)
                self.assertEqual(sent(delay=lit(delay), time=50)[0], 50 + expected)

    def test_argument_is_from_minus_999_to_999(self):
        for arg, expected in ((("int", 999), 999), (("int", -999), -999), (("add", lit(999), ONE), 999),
                              (("sub", lit(-999), ONE), -999), (("mul", lit(999), lit(999)), 999),
                              (("mul", lit(999), lit(-999)), -999), (("add", lit(998), ONE), 999), (lit(0), 0)):
            with self.subTest(arg=arg):
                self.assertEqual(sent(arg=arg)[3], expected)

    def test_target_delay_and_argument_are_expressions(self):
        event = sent(("add", ("self",), ONE), ("now",), ("arg",), objects=4, number=2, time=6, given=-3)
        self.assertEqual(event, (12, 3, "go", -3))

    def test_the_name_need_not_be_a_handler(self):
        self.assertEqual(sent(name="nobody")[2], "nobody")

    def test_several_sends_in_their_order(self):
        program = (("send", lit(1), lit(9), "late", N), ("set", "n", lit(2)), ("send", lit(0), lit(1), "soon", N),
                   ("send", lit(1), lit(9), "late", N), ("send", lit(1), lit(5), "amid", lit(0)))
        expected = [(19, 1, "late", 1), (11, 0, "soon", 2), (19, 1, "late", 2), (15, 1, "amid", 0)]
        self.assertEqual(run_go(program, (1,), time=10), ((2,), expected))


class IfTest(unittest.TestCase):
    def test_both_ways(self):
        program = (("if", ("arg",), (("set", "n", lit(1)),), (("set", "n", lit(2)),)),)
        for arg, expected in ((1, 1), (-1, 1), (999, 1), (0, 2)):
            with self.subTest(arg=arg):
                self.assertEqual(run_go(program, arg=arg), ((expected,), []))

    def test_nested(self):
        inner = ("if", ("less", ("arg",), lit(5)), (("set", "n", lit(1)), ("send", ONE, ONE, "low", N)),
                 (("set", "n", lit(2)), SKIP, ("send", ONE, ONE, "high", N)))
        program = (("if", ("less", lit(0), ("arg",)), (inner, ("set", "n", ("add", N, lit(10)))),
                    (("send", ONE, ONE, "none", ("arg",)),)), ("send", lit(0), ONE, "end", N))
        self.assertEqual(run_go(program, arg=4), ((11,), [(1, 1, "low", 1), (1, 0, "end", 11)]))
        self.assertEqual(run_go(program, arg=5), ((12,), [(1, 1, "high", 2), (1, 0, "end", 12)]))
        self.assertEqual(run_go(program, arg=-1), ((0,), [(1, 1, "none", -1), (1, 0, "end", 0)]))

    def test_the_test_reads_what_was_set_before(self):
        program = (("set", "n", ONE), ("if", N, (("set", "n", lit(7)),), (SKIP,)))
        self.assertEqual(run_go(program), ((7,), []))


class RunHandlerTest(unittest.TestCase):
    def test_the_example_of_the_document(self):
        program = (("set", "n", ("add", ("field", "n"), ("arg",))),
                   ("send", ("int", 1), ("int", 3), "tell", ("field", "n")))
        model = ((("box", (("n", 0, 9),), (("tell", program),)),), ("box", "box"), (), 50)
        self.assertEqual(run_handler(model, 0, (4,), 10, "tell", 7), ((9,), [(13, 1, "tell", 9)]))

    def test_skip_does_nothing(self):
        self.assertEqual(run_go((SKIP, SKIP), (4,)), ((4,), []))

    def test_an_event_without_a_handler(self):
        self.assertEqual(run_handler(GOOD, 0, (4, 5), 3, "nobody", 1), ((4, 5), []))
        self.assertEqual(run_handler(GOOD, 1, (3,), 3, "tell", 1), ((3,), []))

    def test_the_handler_is_that_of_the_kind_and_the_name(self):
        sends = [(17, 0, "tell", 7), (15, 0, "nobody", 3)]
        self.assertEqual(run_handler(GOOD, 2, (0, 0), 12, "tell", 7), ((7, 0), sends))
        self.assertEqual(run_handler(GOOD, 0, (0, 0), 12, "tell", 2), ((2, 1), [(17, 1, "tell", 2)]))
        self.assertEqual(run_handler(GOOD, 0, (0, 0), 12, "rest", 2), ((0, 0), []))

    def test_model_and_state_are_not_changed(self):
        model = with_program((("set", "n", lit(9)), ("send", ONE, ONE, "go", N)), ("box", "box"))
        before = repr(model)
        state = (4,)
        first = run_handler(model, 0, state, 0, "go", 0)
        self.assertEqual((repr(model), state), (before, (4,)))
        self.assertEqual(run_handler(model, 0, state, 0, "go", 0), first)

    def test_each_call_returns_a_list_of_its_own(self):
        for name in ("go", "nobody"):
            model = with_program((SKIP,))
            run_handler(model, 0, (0,), 0, name, 0)[1].append("x")
            self.assertEqual(run_handler(model, 0, (0,), 0, name, 0), ((0,), []))

    def test_kinds_of_the_results(self):
        for name in ("go", "nobody"):
            state, sends = run_handler(with_program((("set", "n", ONE),)), 0, (0,), 0, name, 0)
            self.assertIs(type(state), tuple)
            self.assertIs(type(sends), list)


if __name__ == "__main__":
    unittest.main()
