import unittest

from tests.samples import GOOD, ONE, SKIP, changed, nested, nested_if, part_at, paths, with_program, with_value
from vancourier import forms
from vancourier.errors import BadModel, CourierError
from vancourier.forms import check_model, check_placing, first_state

JUNK = (None, True, False, 1.5, 0.0, 10 ** 12, -10 ** 12, "", "A", "boxes of tea", b"box", [], {}, set(), object())
FIELDS = (0, 0, 1)
HANDLERS = (0, 0, 2)
PROGRAM = (0, 0, 2, 0, 1)
SEND = ("send", ONE, ONE, "go", ONE)


class FormsCase(unittest.TestCase):
    def assert_good(self, model):
        self.assertIs(check_model(model), model)

    def assert_bad(self, value):
        with self.assertRaises(BadModel):
            check_model(value)

    def assert_bad_at(self, path, *news):
        for new in news:
            with self.subTest(path=path, new=new):
                self.assert_bad(changed(GOOD, path, new))

    def assert_good_at(self, path, *news):
        for new in news:
            with self.subTest(path=path, new=new):
                self.assert_good(changed(GOOD, path, new))


class LimitsTest(unittest.TestCase):
    def test_the_limits_have_the_values_of_the_document(self):
        self.assertEqual(forms.LIMIT, 10 ** 9)
        self.assertEqual(forms.MOST_DELAY, 20)
        self.assertEqual(forms.MOST_NODES, 80)
        self.assertEqual(forms.MOST_DEPTH, 8)
        self.assertEqual(forms.MOST_SENDS, 4)


class AnyValueTest(FormsCase):
    def test_a_model_is_returned_as_it_was_given(self):
        self.assert_good(GOOD)

    def test_bad_model_is_a_courier_error(self):
        with self.assertRaises(CourierError):
            check_model(None)

    def test_values_that_are_no_models(self):
        for value in JUNK + ((), (1,), ((), (), (), ()), list(GOOD), "abcd", {0: 1, 1: 2, 2: 3, 3: 4}):
            with self.subTest(value=value):
                self.assert_bad(value)

    def test_no_place_of_a_model_takes_a_value_of_another_kind(self):
        for path in paths(GOOD):
            self.assert_bad_at(path, *JUNK)

    def test_no_place_takes_a_list_for_a_tuple_or_a_wrong_number_of_items(self):
        for path in paths(GOOD):
            old = part_at(GOOD, path)
            if isinstance(old, tuple):
                self.assert_bad_at(path, list(old), old + (None,), (None,) + old, (old,))

    def test_no_tuple_of_a_form_takes_an_item_less(self):
        # A shorter tuple of handlers, objects, statements or start events is a model again.
        lists = [(0, 0, 1), (0, 0, 2), PROGRAM, PROGRAM + (2, 2), (1,), (2,)]
        for path in paths(GOOD):
            old = part_at(GOOD, path)
            if isinstance(old, tuple) and old and path not in lists:
                self.assert_bad_at(path, old[:-1])

    def test_a_huge_program_is_left_early(self):
        program = (SKIP,) * 50
        for _ in range(6):
            program = (("if", ONE, program, program),) * 50
        self.assert_bad(with_program(program))

    def test_a_very_deep_program_is_a_bad_model(self):
        self.assert_bad(with_value(nested(100000)))


class KindsTest(FormsCase):
    def test_names(self):
        places = ((0, 1, 0), FIELDS + (1, 0), HANDLERS + (1, 0), (2, 0, 2), PROGRAM + (1, 3))
        for path in places:
            model = changed(changed(GOOD, PROGRAM + (2,), SKIP), (1,), ("box",) * 3)
            for name in ("a", "z", "abcdefghijkl", "zzzzzzzzzzzz"):
                with self.subTest(path=path, name=name):
                    self.assert_good(changed(model, path, name))
            for name in ("", "abcdefghijklm", "aB", "a1", "a ", " a", "a_", "a`", "a{", "\u00e4", "a\n", ("a",), b"a"):
                with self.subTest(path=path, name=name):
                    self.assert_bad(changed(model, path, name))

    def test_names_of_kinds_are_different(self):
        self.assert_bad(changed(changed(GOOD, (0, 1, 0), "box"), (1,), ("box",)))

    def test_names_of_fields_are_different(self):
        self.assert_bad_at(FIELDS + (1, 0), "count")
        self.assert_good_at(FIELDS, GOOD[0][0][1] + (("box", 0, 0), ("tell", 0, 0)))

    def test_names_of_handlers_are_different(self):
        self.assert_bad_at(HANDLERS + (1, 0), "tell")
        self.assert_good_at(HANDLERS + (1, 0), "box", "count")

    def test_number_of_kinds(self):
        kinds = tuple((name, (("n", 0, 1),), ()) for name in "abcde")
        for many in (1, 2, 3, 4):
            self.assert_good((kinds[:many], ("a",), (), 0))
        self.assert_bad(((), ("a",), (), 0))
        self.assert_bad((kinds, ("a",), (), 0))

    def test_number_of_fields(self):
        fields = tuple((name, 0, 1) for name in "abcde")
        self.assert_good_at((0, 1, 1), *[fields[:many] for many in (1, 2, 3, 4)])
        self.assert_bad_at((0, 1, 1), (), fields)

    def test_number_of_handlers(self):
        handlers = tuple((name, (SKIP,)) for name in "abcde")
        self.assert_good_at(HANDLERS, *[handlers[:many] for many in (0, 1, 2, 3, 4)])
        self.assert_bad_at(HANDLERS, handlers)

    def test_ranges_of_fields(self):
        field = FIELDS + (1,)
        for low, high in ((-1000000, 1000000), (1000000, 1000000), (-1000000, -1000000), (0, 0), (-3, -2)):
            self.assert_good_at(field, ("debt", low, high))
        for low, high in ((-1000001, 0), (0, 1000001), (1, 0), (-2, -3), (1000001, 1000001), (True, 1), (0, True),
                          (False, 1), (-1, False), (0.0, 1), (0, 1.0), ("0", 1), (0, None), ((), 1)):
            self.assert_bad_at(field, ("debt", low, high))


class ObjectsTest(FormsCase):
    def test_number_of_objects(self):
        self.assert_good(changed(GOOD, (1,), ("box",) * 8))
        self.assert_good((GOOD[0], ("wall",), (), 0))
        self.assert_bad((GOOD[0], (), (), 0))
        self.assert_bad(changed(GOOD, (1,), ("box",) * 9))

    def test_objects_are_names_of_kinds(self):
        self.assert_bad_at((1, 1), "count", "tell", "boxes", "bo", 0, ("box",), ["box"])


class StartTest(FormsCase):
    def test_number_of_start_events(self):
        event = (0, 0, "tell", 0)
        self.assert_good_at((2,), (), (event,), (event,) * 12)
        self.assert_bad_at((2,), (event,) * 13)

    def test_end(self):
        model = changed(GOOD, (2,), ())
        for end in (0, 1, 1000):
            self.assert_good(changed(model, (3,), end))
        for end in (-1, 1001, True, False, 50.0, "50", None, (50,)):
            with self.subTest(end=end):
                self.assert_bad(changed(model, (3,), end))

    def test_time(self):
        self.assert_good_at((2, 0, 0), 0, 50)
        self.assert_bad_at((2, 0, 0), -1, 51, True, False, 0.0, "0")
        self.assert_bad(changed(GOOD, (3,), 49))

    def test_target(self):
        self.assert_good_at((2, 0, 1), 0, 1, 2)
        self.assert_bad_at((2, 0, 1), -1, 3, True, False, 0.0, "box")

    def test_name_need_not_be_a_handler(self):
        self.assert_good_at((2, 0, 2), "nobody", "count", "box")

    def test_argument(self):
        self.assert_good_at((2, 0, 3), -999, 0, 999)
        self.assert_bad_at((2, 0, 3), -1000, 1000, True, False, 0.0, "0")


class ExpressionsTest(FormsCase):
    def test_each_form(self):
        twos = ("add", "sub", "mul", "min", "max", "less", "same", "both", "either")
        forms_of_one = [("int", -999), ("int", 0), ("int", 999), ("field", "n"), ("arg",), ("now",), ("self",)]
        numbered = [(word, ONE, n) for word in ("div", "mod") for n in (1, 2, 999)]
        for e in forms_of_one + numbered + [(word, ONE, ("arg",)) for word in twos] + [("not", ONE)]:
            with self.subTest(e=e):
                self.assert_good(with_value(e))
                for wrong in (e + (ONE,), e[:-1], list(e), ("x" + e[0],) + e[1:], (e[0].upper(),) + e[1:]):
                    self.assert_bad(with_value(wrong))

    def test_numbers(self):
        for e in (("int", -1000), ("int", 1000), ("int", True), ("int", False), ("int", 1.0), ("int", "1"),
                  ("int", ONE), ("int", None)):
            with self.subTest(e=e):
                self.assert_bad(with_value(e))

    def test_divisors(self):
        for word in ("div", "mod"):
            for n in (0, -1, 1000, True, False, 2.0, "2", ONE, None):
                with self.subTest(word=word, n=n):
                    self.assert_bad(with_value((word, ONE, n)))
            self.assert_bad(with_value((word, 1, 2)))

    def test_operands_are_expressions(self):
        for operand in (1, "n", None, True, (), ("skip",), (1,), ((),), ([],), ["int", 1], SEND):
            for e in (("add", operand, ONE), ("both", ONE, operand), ("not", operand), ("mod", operand, 3)):
                with self.subTest(e=e):
                    self.assert_bad(with_value(e))

    def test_fields_are_those_of_the_kind(self):
        for name in ("m", "", "box", "go", "N", 0, None, ["n"], ("n",), {}):
            with self.subTest(name=name):
                self.assert_bad(with_value(("field", name)))
                self.assert_bad(with_program((("set", name, ONE),)))

    def test_a_field_of_another_kind_is_no_field_of_this_one(self):
        handlers = (("go", (("set", "count", ("field", "debt")),)),)
        self.assert_good_at(HANDLERS, handlers)
        self.assert_bad_at((0, 1, 2), handlers)
        self.assert_bad_at((0, 1, 2), (("go", (("set", "debt", ("field", "count")),)),))


class StatementsTest(FormsCase):
    def test_each_form(self):
        for statement in (SKIP, SEND, ("set", "n", ONE), ("if", ONE, (SKIP,), (SKIP,))):
            with self.subTest(statement=statement):
                self.assert_good(with_program((statement,)))
                self.assert_good(with_program((SKIP, statement)))
                self.assert_good(with_program((("if", ONE, (statement,), (statement,)),)))
                word = statement[0]
                for wrong in (statement + (ONE,), statement[:-1], list(statement), (word + "s",) + statement[1:], word):
                    self.assert_bad(with_program((wrong,)))
                    self.assert_bad(with_program((("if", ONE, (SKIP,), (wrong,)),)))
                    self.assert_bad(with_program((("if", ONE, (wrong,), (SKIP,)),)))

    def test_a_program_has_a_statement(self):
        self.assert_bad(with_program(()))
        self.assert_bad(with_program((("if", ONE, (), (SKIP,)),)))
        self.assert_bad(with_program((("if", ONE, (SKIP,), ()),)))

    def test_a_program_is_a_tuple_of_statements(self):
        for program in (SKIP, [SKIP], None, 0, "skip", ((),), ((SKIP,),), (ONE,), (("arg",),), {SKIP: 1}):
            with self.subTest(program=program):
                self.assert_bad(with_program(program))
                self.assert_bad(with_program((("if", ONE, program, (SKIP,)),)))
                self.assert_bad(with_program((("if", ONE, (SKIP,), program),)))

    def test_expressions_of_statements(self):
        for wrong in (1, "n", SKIP, (), ("int",), None):
            for statement in (("set", "n", wrong), ("if", wrong, (SKIP,), (SKIP,)), ("send", wrong, ONE, "go", ONE),
                              ("send", ONE, wrong, "go", ONE), ("send", ONE, ONE, "go", wrong)):
                with self.subTest(statement=statement):
                    self.assert_bad(with_program((statement,)))

    def test_names_of_sent_events(self):
        for name in ("go", "nobody", "n", "box", "abcdefghijkl"):
            self.assert_good(with_program((("send", ONE, ONE, name, ONE),)))
        for name in ("", "Go", "abcdefghijklm", "g o", 1, None, ["go"], ONE):
            with self.subTest(name=name):
                self.assert_bad(with_program((("send", ONE, ONE, name, ONE),)))


class SizesTest(FormsCase):
    def assert_is_most(self, program):
        self.assert_good(with_program(program))
        self.assert_bad(with_program(program + (SKIP,)))
        self.assert_bad(with_program((SKIP,) + program))

    def test_most_nodes_of_statements(self):
        self.assert_is_most((SKIP,) * 80)

    def test_most_nodes_of_expressions(self):
        self.assert_is_most((("set", "n", ONE),) * 40)
        self.assert_is_most((("set", "n", ("add", ONE, ONE)),) * 20)
        self.assert_is_most((("set", "n", ("not", ("arg",))),) * 26 + (SKIP,) * 2)
        self.assert_is_most((("set", "n", ("mod", ("field", "n"), 9)),) * 26 + (SKIP,) * 2)
        self.assert_is_most((SEND,) * 4 + (SKIP,) * 64)

    def test_most_nodes_with_if(self):
        for first in (1, 39, 77):
            self.assert_is_most((("if", ONE, (SKIP,) * first, (SKIP,) * (78 - first)),))
            self.assert_bad(with_program((("if", ONE, (SKIP,) * first, (SKIP,) * (79 - first)),)))

    def test_nodes_are_counted_for_each_handler(self):
        program = (SKIP,) * 80
        self.assert_good_at(HANDLERS, (("go", program), ("stop", program)))

    def test_most_depth_of_expressions(self):
        self.assert_good(with_value(nested(7)))
        self.assert_bad(with_value(nested(8)))
        for wrap in (lambda e: ("add", ONE, e), lambda e: ("less", e, ONE), lambda e: ("div", e, 2)):
            self.assert_good(with_value(wrap(nested(6))))
            self.assert_bad(with_value(wrap(nested(7))))
        for place in (1, 2, 4):
            self.assert_good(with_program((changed(SEND, (place,), nested(7)),)))
            self.assert_bad(with_program((changed(SEND, (place,), nested(8)),)))

    def test_most_depth_of_statements(self):
        self.assert_good(with_program(nested_if(7, (SKIP,))))
        self.assert_bad(with_program(nested_if(8, (SKIP,))))
        self.assert_good(with_program(nested_if(6, (("set", "n", ONE),))))
        self.assert_bad(with_program(nested_if(7, (("set", "n", ONE),))))
        self.assert_good(with_program(nested_if(3, (("if", nested(4), (SKIP,), (SKIP,)),))))
        self.assert_bad(with_program(nested_if(3, (("if", nested(5), (SKIP,), (SKIP,)),))))

    def test_most_sends(self):
        self.assert_good(with_program((SEND,) * 4))
        self.assert_bad(with_program((SEND,) * 5))
        for other in (SKIP, ("set", "n", ONE), ("if", ONE, (SKIP,), (SKIP,))):
            self.assert_good(with_program((other, SEND) * 4))
            self.assert_bad(with_program((other, SEND) * 5))

    def test_most_sends_on_a_way_through_if(self):
        def fork(first, second):
            return ("if", ONE, (SEND,) * first + (SKIP,), (SKIP,) + (SEND,) * second)

        for program in ((fork(4, 4),), (fork(4, 0),), (fork(0, 4),), (SEND, fork(3, 1)), (fork(1, 3), SEND),
                        (fork(2, 1), fork(0, 2)), (("if", ONE, (SEND, fork(1, 3)), (SEND,) * 3),)):
            with self.subTest(program=program):
                self.assert_good(with_program(program))
        for program in ((fork(5, 0),), (fork(0, 5),), (SEND, SEND, fork(3, 1)), (fork(1, 3), SEND, SEND),
                        (fork(3, 0), fork(0, 2)), (("if", ONE, (SEND, fork(1, 4)), (SEND,) * 3),)):
            with self.subTest(program=program):
                self.assert_bad(with_program(program))


class PlacingTest(unittest.TestCase):
    def test_number_of_processors(self):
        for placing, many in (((0, 0, 0), 1), ((0, 1, 2), 3), ((2, 1, 0), 3), ((1, 0, 1), 2), ((7, 0, 3), 8)):
            self.assertEqual(check_placing(GOOD, placing), many)

    def test_a_processor_may_have_no_object(self):
        self.assertEqual(check_placing(GOOD, (2, 2, 2)), 3)
        self.assertEqual(check_placing(GOOD, (0, 5, 0)), 6)

    def test_bad_placings(self):
        for placing in ((), (0, 0), (0, 0, 0, 0), (-1, 0, 0), (0, 8, 0), (0, 0, 10 ** 30), (True, 0, 0), (0, 1, False),
                        (0, 0, "0"), (0, 0.0, 0), (None, 0, 0), (0, (0,), 0), [0, 0, 0], "000", None, 3, {}, set()):
            with self.subTest(placing=placing):
                with self.assertRaises(BadModel):
                    check_placing(GOOD, placing)


class FirstStateTest(unittest.TestCase):
    def test_each_field_has_the_integer_that_is_nearest_to_zero(self):
        fields = (("above", 3, 9), ("below", -9, -4), ("around", -2, 2), ("exact", 7, 7))
        model = ((("box", fields, ()),), ("box",), (), 5)
        self.assertEqual(first_state(model, 0), (3, -4, 0, 7))

    def test_ranges_that_begin_or_end_at_zero(self):
        model = ((("box", (("a", 0, 9), ("b", -9, 0), ("c", 0, 0), ("d", 1, 1)), ()),), ("box",), (), 5)
        self.assertEqual(first_state(model, 0), (0, 0, 0, 1))

    def test_each_object_has_the_fields_of_its_kind(self):
        self.assertEqual([first_state(GOOD, number) for number in range(3)], [(0, 0), (3,), (0, 0)])


if __name__ == "__main__":
    unittest.main()
