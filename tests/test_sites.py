import unittest

from tests.samples import ADD, N, ONE, Marks, eager, event, filled, lazy, view
from vancourier.errors import BadMark
from vancourier.forms import check_model
from vancourier.sites import Site


class WaitingTest(unittest.TestCase):
    def test_a_new_site(self):
        for site in (eager(), lazy(8)):
            self.assertEqual(view(site), (None, (0,), 0, [], [], 0))
            self.assertEqual(site.overdue(), [])
            self.assertEqual(site.forget(5), [])

    def test_the_first_state_is_that_of_the_object(self):
        kinds = (("box", (("n", 3, 9),), ()), ("cup", (("k", -9, -2), ("j", 0, 1)), ()))
        model = check_model((kinds, ("box", "cup"), (), 5))
        self.assertEqual(Site(model, 1, 1, False).state(), (-2, 0))

    def test_inserted_instances_wait_in_the_order_of_their_events(self):
        site = eager()
        for mark, each in (((1, 0), event(5)), ((0, 1), event(2)), ((0, 2), event(9)), ((0, 3), event(2, arg=0))):
            self.assertEqual(site.insert(mark, each), [])
        self.assertEqual(site.waiting(), [event(2, arg=0), event(2), event(5), event(9)])
        self.assertEqual(site.least(), event(2, arg=0))
        self.assertEqual((site.processed(), site.state(), site.count(), site.kept()), ([], (0,), 0, 0))

    def test_waiting_instances_are_removed(self):
        site = eager()
        site.insert((1, 0), event(5))
        site.insert((1, 1), event(5))
        site.insert((1, 2), event(2))
        self.assertEqual(site.remove((1, 0)), [])
        self.assertEqual(site.waiting(), [event(2), event(5)])
        self.assertEqual(site.remove((1, 2)), [])
        self.assertEqual(site.remove((1, 1)), [])
        self.assertEqual(view(site), (None, (0,), 0, [], [], 0))

    def test_returned_lists_are_new(self):
        for site in (eager(), lazy()):
            marks = filled(site, event(1), event(2))
            site.insert((1, 0), event(9))
            before = view(site)
            for rows in (site.processed(), site.waiting(), site.overdue(), site.forget(0)):
                rows.clear()
                rows.append(None)
            self.assertEqual(view(site), before)
            marks.process().append(None)
            site.insert((1, 1), event(0)).append(None)
            self.assertEqual(site.waiting(), [event(0), event(1), event(2), event(9)])

    def test_note_does_not_change_or_keep_its_argument(self):
        site = eager()
        site.insert((0, 0), event(1, "twice"))
        site.process()
        marks = [(5, 0), (5, 1)]
        site.note(marks)
        self.assertEqual(marks, [(5, 0), (5, 1)])
        marks.clear()
        self.assertEqual(site.remove((0, 0)), [(5, 0), (5, 1)])


class ProcessTest(unittest.TestCase):
    def test_process_returns_the_sent_events_with_sender_and_counts(self):
        site = eager()
        marks = Marks(site)
        marks.insert_all(event(4, arg=1), event(6, arg=2))
        self.assertEqual(marks.process(), [(7, 1, 0, 0, "go", 1), (6, 0, 0, 1, "back", 1)])
        self.assertEqual(view(site), (event(6, arg=2), (1,), 2, [event(4, arg=1)], [event(6, arg=2)], 1))
        self.assertEqual(marks.process(), [(9, 1, 0, 2, "go", 2), (8, 0, 0, 3, "back", 3)])
        self.assertEqual(view(site), (None, (3,), 4, [event(4, arg=1), event(6, arg=2)], [], 2))

    def test_the_handler_is_that_of_the_object(self):
        kinds = (("box", (("n", 0, 9),), ()), ("cup", (("n", 0, 9),), (("go", (ADD, ("send", ("self",), ONE, "go", N))),)))
        model = check_model((kinds, ("box", "cup"), (), 5))
        site = Site(model, 1, 1, False)
        site.insert((0, 0), (1, 1, -1, 0, "go", 6))
        self.assertEqual(site.process(), [(2, 1, 1, 0, "go", 6)])
        self.assertEqual(site.state(), (6,))

    def test_an_event_without_a_handler_is_processed(self):
        site = eager()
        site.insert((0, 0), event(4, "nobody"))
        self.assertEqual(site.process(), [])
        site.note([])
        self.assertEqual(view(site), (None, (0,), 0, [event(4, "nobody")], [], 1))

    def test_the_least_instance_is_processed_first_also_among_equal_events(self):
        site = eager()
        marks = Marks(site)
        site.insert((1, 7), event(3, "twice"))
        site.insert((0, 9), event(3, "twice"))
        site.insert((1, -2), event(3, "twice"))
        marks.process_all()
        # The events of the instances with the marks (0, 9), (1, -2) and (1, 7) are (5, 0) to (5, 5), two for each.
        self.assertEqual(site.remove((1, -2)), [(5, 2), (5, 3), (5, 4), (5, 5)])
        self.assertEqual(site.processed(), [event(3, "twice")])
        self.assertEqual(site.waiting(), [event(3, "twice")])
        self.assertEqual(site.remove((0, 9)), [(5, 0), (5, 1)])

    def test_the_order_is_that_of_the_events_not_of_their_insertion(self):
        rows = [event(3, "quiet", 2, -1, 1), event(3, "go", 5, -1, 1), event(3, "go", 4, -1, 1), event(3, "back", 0, 1, 0),
                event(2, "go", 9, 1, 7), event(3, "twice", 0, -1, 0)]
        for turn in range(6):
            site = eager()
            filled(site, *(rows[turn:] + rows[:turn]))
            self.assertEqual(site.processed(), sorted(rows))
            self.assertEqual(site.state(), (36,))


class BadMarkTest(unittest.TestCase):
    def check(self, site, call, *args):
        before = view(site)
        with self.assertRaises(BadMark):
            call(*args)
        self.assertEqual(view(site), before)

    def test_process_where_nothing_waits(self):
        for site in (eager(), lazy()):
            self.check(site, site.process)
            filled(site, event(1))
            self.check(site, site.process)
            self.assertEqual(site.remove((9, 0)), [(5, 0), (5, 1)])
            self.check(site, site.process)

    def test_insert_of_a_mark_that_is_held(self):
        for site in (eager(2), lazy(2)):
            filled(site, event(1), event(2))
            site.insert((1, 1), event(5))
            for mark in ((9, 0), (9, 1), (1, 1)):
                self.check(site, site.insert, mark, event(0))
                self.check(site, site.insert, mark, event(9))
            self.assertEqual(site.remove((1, 1)), [])
            self.assertEqual(site.remove((9, 0)), [(5, 0), (5, 1), (5, 2)] if not site.lazy else [(5, 0), (5, 1)])

    def test_insert_of_a_mark_that_was_removed(self):
        site = eager()
        site.insert((1, 1), event(5))
        site.remove((1, 1))
        self.assertEqual(site.insert((1, 1), event(5)), [])
        self.assertEqual(site.waiting(), [event(5)])

    def test_remove_of_a_mark_that_is_not_held(self):
        for site in (eager(), lazy()):
            self.check(site, site.remove, (0, 0))
            filled(site, event(1), event(2))
            self.check(site, site.remove, (9, 2))
            self.check(site, site.remove, (5, 0))
            site.insert((1, 1), event(5))
            site.remove((1, 1))
            self.check(site, site.remove, (1, 1))
            site.remove((9, 1))
            self.check(site, site.remove, (9, 1))

    def test_a_mark_that_was_thrown_away(self):
        for site in (eager(), lazy()):
            filled(site, event(1), event(2), event(3))
            site.forget(3)
            self.assertEqual(site.kept(), 1)
            for number in (0, 1):
                self.check(site, site.remove, (9, number))
                self.check(site, site.insert, (9, number), event(5))
            self.assertEqual(site.remove((9, 2)), [(5, 3), (5, 4)])


class TakeBackTest(unittest.TestCase):
    def test_an_insertion_behind_the_processed_ones_takes_nothing_back(self):
        site = eager()
        filled(site, event(1), event(3))
        self.assertEqual(site.insert((1, 1), event(3, arg=2)), [])
        self.assertEqual(site.insert((9, 9), event(3)), [])
        self.assertEqual(site.processed(), [event(1), event(3)])
        self.assertEqual(site.waiting(), [event(3), event(3, arg=2)])

    def test_an_insertion_takes_back_the_greater_ones(self):
        for interval in range(1, 9):
            with self.subTest(interval=interval):
                site = eager(interval)
                marks = filled(site, event(1, arg=1), event(3, arg=1), event(5, arg=3), event(7, arg=2))
                # The sums are 1, 2, 5, 7: the instances sent (0, 1), (2), (3, 4) and (5, 6).
                self.assertEqual((site.state(), site.count()), ((7,), 7))
                self.assertEqual(site.insert((1, 1), event(4, "quiet", 3)), [(5, 3), (5, 4), (5, 5), (5, 6)])
                self.assertEqual(view(site), (
                    event(4, "quiet", 3), (2,), 3, [event(1, arg=1), event(3, arg=1)],
                    [event(4, "quiet", 3), event(5, arg=3), event(7, arg=2)], 2))
                self.assertEqual(marks.process_all(), [
                    [], [(8, 1, 0, 3, "go", 3), (7, 0, 0, 4, "back", 9)], [(10, 1, 0, 5, "go", 2), (9, 0, 0, 6, "back", 11)]])
                self.assertEqual((site.state(), site.count()), ((11,), 7))

    def test_an_insertion_before_all_takes_all_back(self):
        for interval in range(1, 9):
            site = eager(interval)
            filled(site, event(1), event(2), event(3))
            self.assertEqual(site.insert((1, 1), event(0)), [(5, 0), (5, 1), (5, 2), (5, 3), (5, 4)])
            self.assertEqual(view(site), (event(0), (0,), 0, [], [event(0), event(1), event(2), event(3)], 0))

    def test_equal_events_are_ordered_by_their_marks(self):
        for interval in range(1, 9):
            site = eager(interval)
            marks = Marks(site)
            for mark in ((2, 5), (2, 8), (3, 0)):
                site.insert(mark, event(4, "twice"))
            marks.process_all()
            self.assertEqual(site.insert((2, 9), event(4, "twice")), [(5, 4), (5, 5)])
            self.assertEqual((site.processed(), site.count()), ([event(4, "twice")] * 2, 4))
            self.assertEqual(site.insert((2, -9), event(4, "twice")), [(5, 0), (5, 1), (5, 2), (5, 3)])
            self.assertEqual(site.insert((9, 9), event(4, "twice")), [])
            self.assertEqual(view(site), (event(4, "twice"), (0,), 0, [], [event(4, "twice")] * 6, 0))

    def test_a_removal_takes_back_the_instance_and_the_greater_ones(self):
        for interval in range(1, 9):
            with self.subTest(interval=interval):
                site = eager(interval)
                marks = filled(site, event(1, arg=1), event(3, arg=1), event(5, arg=3), event(7, arg=2))
                site.insert((1, 1), event(9))
                self.assertEqual(site.remove((9, 1)), [(5, 2), (5, 3), (5, 4), (5, 5), (5, 6)])
                self.assertEqual(view(site), (
                    event(5, arg=3), (1,), 2, [event(1, arg=1)], [event(5, arg=3), event(7, arg=2), event(9)], 1))
                marks.process_all()
                self.assertEqual((site.state(), site.count()), ((7,), 6))
                self.assertEqual(site.remove((1, 1)), [(5, 9), (5, 10)])
                self.assertEqual((site.state(), site.waiting()), ((6,), []))

    def test_taking_back_to_between_two_saved_states(self):
        for interval in range(1, 9):
            for place in range(10):
                with self.subTest(interval=interval, place=place):
                    site = eager(interval)
                    marks = filled(site, *[event(2 * number, arg=number + 1) for number in range(10)])
                    site.remove((9, place))
                    state = place * (place + 1) // 2
                    odd = len([number for number in range(1, place + 1) if number * (number + 1) // 2 % 2])
                    self.assertEqual((site.state(), site.count(), site.kept()), ((state,), place + odd, place))
                    site.insert((1, 1), event(2 * place, arg=place + 1))
                    marks.process_all()
                    self.assertEqual((site.state(), site.kept()), ((50,), 10))

    def test_a_waiting_instance_is_removed_without_taking_back(self):
        site = eager(3)
        filled(site, event(1), event(2))
        site.insert((1, 1), event(5))
        site.insert((1, 2), event(6))
        self.assertEqual(site.remove((1, 1)), [])
        self.assertEqual((site.processed(), site.waiting()), ([event(1), event(2)], [event(6)]))

    def test_marks_are_returned_in_the_order_of_sending(self):
        site = eager()
        for mark, each in (((1, 0), event(1, "twice")), ((1, 1), event(2, "twice"))):
            site.insert(mark, each)
        site.process()
        site.note([(8, 1), (3, 9)])
        site.process()
        site.note([(7, 5), (0, 0)])
        self.assertEqual(site.insert((1, 2), event(0)), [(8, 1), (3, 9), (7, 5), (0, 0)])

    def test_an_eager_site_has_no_doubtful_events(self):
        site = eager()
        marks = filled(site, event(1), event(2))
        self.assertEqual(site.insert((1, 1), event(0, "quiet")), [(5, 0), (5, 1), (5, 2)])
        self.assertEqual(site.overdue(), [])
        self.assertEqual([len(events) for events in marks.process_all()], [0, 2, 1])
        self.assertEqual(site.overdue(), [])
        self.assertEqual(site.remove((1, 1)), [(5, 3), (5, 4), (5, 5)])
        self.assertEqual(site.remove((9, 0)), [])


if __name__ == "__main__":
    unittest.main()
