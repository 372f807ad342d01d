"""What a lazy site holds as doubtful, sends again, and cancels (point 136)."""

import unittest

from tests.samples import Marks, event, filled, lazy

# With these the object has the sum 3 and sends p0, p1 (marks (5, 0), (5, 1)) and e0, e1 (marks (5, 2), (5, 3)).
FIRST = event(1, "go", 1)
SECOND = event(5, "go", 2)
E0 = (8, 1, 0, 2, "go", 2)
E1 = (7, 0, 0, 3, "back", 3)


def pair(interval=1):
    return filled(lazy(interval), FIRST, SECOND)


class SentAgainTest(unittest.TestCase):
    def test_the_pair(self):
        marks = Marks(lazy())
        marks.insert_all(FIRST, SECOND)
        self.assertEqual(marks.process_all(), [[(4, 1, 0, 0, "go", 1), (3, 0, 0, 1, "back", 1)], [E0, E1]])
        self.assertEqual(marks.site.overdue(), [])

    def test_an_event_that_is_sent_again_is_not_returned_and_keeps_its_mark(self):
        for interval in range(1, 9):
            with self.subTest(interval=interval):
                marks = pair(interval)
                site = marks.site
                self.assertEqual(site.insert((1, 1), event(3, "quiet", 1)), [])
                self.assertEqual((site.state(), site.count()), ((1,), 2))
                self.assertEqual(marks.process(), [])
                self.assertEqual(site.overdue(), [])
                self.assertEqual(marks.process(), [])
                self.assertEqual(site.overdue(), [])
                self.assertEqual((site.state(), site.count()), ((3,), 4))
                self.assertEqual(site.remove((9, 1)), [(5, 2), (5, 3)])

    def test_nothing_is_cancelled_at_once(self):
        site = pair().site
        self.assertEqual(site.insert((1, 1), event(0, "quiet", 1)), [])
        self.assertEqual(site.overdue(), [])

    def test_only_some_are_sent_again(self):
        marks = pair()
        site = marks.site
        site.insert((1, 1), event(3, "quiet", 4))
        self.assertEqual(marks.process_all(), [[], []])
        self.assertEqual(site.overdue(), [(5, 3)])
        self.assertEqual(site.overdue(), [])
        self.assertEqual(site.remove((9, 1)), [(5, 2)])

    def test_new_events_take_the_noted_marks_in_the_order_of_sending(self):
        marks = pair()
        site = marks.site
        site.insert((1, 1), event(3, "quiet", 5))
        self.assertEqual(marks.process_all(), [[], [(7, 0, 0, 3, "back", 7)]])
        self.assertEqual(site.overdue(), [(5, 3)])
        self.assertEqual(site.remove((9, 1)), [(5, 2), (5, 4)])

    def test_an_event_with_another_count_is_not_sent_again(self):
        marks = pair()
        site = marks.site
        site.insert((1, 1), event(3, "back", 0))
        self.assertEqual(marks.process_all(), [
            [(4, 1, 0, 2, "go", 1)], [(8, 1, 0, 3, "go", 2), (7, 0, 0, 4, "back", 3)]])
        self.assertEqual(site.overdue(), [(5, 2), (5, 3)])
        self.assertEqual(site.remove((9, 1)), [(5, 5), (5, 6)])

    def test_another_instance_may_send_a_doubtful_event_again(self):
        marks = filled(lazy(), event(5, "back"))
        site = marks.site
        # Both send (6, 1, 0, 0, "go", 0) as their object's first event.
        site.insert((1, 1), event(3, "go", 0))
        self.assertEqual(marks.process(), [])
        self.assertEqual(site.overdue(), [])
        self.assertEqual(marks.process(), [(6, 1, 0, 1, "go", 0)])
        self.assertEqual(site.overdue(), [])
        self.assertEqual(site.remove((9, 0)), [(5, 1)])
        self.assertEqual(site.remove((1, 1)), [(5, 0)])

    def test_an_event_that_is_doubtful_several_times_keeps_its_mark(self):
        marks = pair(2)
        site = marks.site
        for number in range(5):
            self.assertEqual(site.insert((1, number), event(3, "quiet", 1)), [])
            if number % 2:
                self.assertEqual(site.insert((2, number), event(0, "quiet", 7)), [])
            self.assertEqual([events for events in marks.process_all() if events], [])
            self.assertEqual(site.overdue(), [])
        self.assertEqual(site.remove((9, 1)), [(5, 2), (5, 3)])
        self.assertEqual(site.remove((9, 0)), [(5, 0), (5, 1)])

    def test_events_that_differ_in_the_count_are_sent_again_one_by_one(self):
        marks = filled(lazy(), event(5, "twice"), event(5, "twice"))
        site = marks.site
        for number in range(3):
            site.insert((1, number), event(4 - number, "quiet"))
            self.assertEqual([events for events in marks.process_all() if events], [])
            self.assertEqual(site.overdue(), [])
        # The first instance is removed while a lesser one waits: the second one then sends what the first one had sent.
        site.insert((2, 0), event(0, "quiet"))
        self.assertEqual(site.remove((9, 0)), [])
        self.assertEqual([events for events in marks.process_all() if events], [])
        self.assertEqual(site.overdue(), [(5, 2), (5, 3)])
        self.assertEqual(site.remove((9, 1)), [(5, 0), (5, 1)])

    def test_a_doubtful_event_is_sent_again_after_many_steps_back(self):
        marks = filled(lazy(3), *[event(2 * number, "go", 2) for number in range(8)])
        site = marks.site
        site.insert((1, 1), event(1, "quiet", 3))
        site.insert((1, 2), event(7, "quiet", 5))
        self.assertEqual([events for events in marks.process_all() if events], [])
        self.assertEqual(site.overdue(), [])
        self.assertEqual(site.count(), 8)
        self.assertEqual(site.remove((9, 7)), [(5, 7)])


class OverdueTest(unittest.TestCase):
    def test_by_process(self):
        marks = pair()
        site = marks.site
        site.insert((1, 1), event(3, "quiet", 4))
        marks.process()
        self.assertEqual(site.overdue(), [])
        marks.process()
        self.assertEqual(site.overdue(), [(5, 3)])

    def test_by_process_of_another_instance(self):
        marks = pair()
        site = marks.site
        site.insert((1, 1), event(3, "quiet", 1))
        self.assertEqual(site.remove((9, 1)), [])
        self.assertEqual(site.overdue(), [])
        marks.process()
        self.assertEqual(site.overdue(), [(5, 2), (5, 3)])
        self.assertEqual(site.overdue(), [])

    def test_at_the_end_of_insert(self):
        marks = pair()
        site = marks.site
        site.insert((1, 1), event(3, "quiet", 4))
        marks.process_all()
        # `overdue` was not called, so the insertion returns what it would return.
        self.assertEqual(site.insert((1, 2), event(9)), [(5, 3)])
        self.assertEqual(site.overdue(), [])

    def test_at_the_end_of_remove(self):
        site = pair().site
        self.assertEqual(site.insert((1, 1), event(3)), [])
        self.assertEqual(site.remove((9, 1)), [])
        self.assertEqual(site.remove((1, 1)), [(5, 2), (5, 3)])
        self.assertEqual(site.overdue(), [])

    def test_a_removed_processed_instance_is_overdue_at_once(self):
        site = pair().site
        self.assertEqual(site.remove((9, 1)), [(5, 2), (5, 3)])
        self.assertEqual(site.remove((9, 0)), [(5, 0), (5, 1)])

    def test_a_removal_leaves_the_events_of_the_greater_ones_doubtful(self):
        marks = pair()
        site = marks.site
        self.assertEqual(site.remove((9, 0)), [(5, 0), (5, 1)])
        self.assertEqual(site.waiting(), [SECOND])
        self.assertEqual(site.remove((9, 1)), [(5, 2), (5, 3)])

    def test_the_instance_itself_waits(self):
        site = pair().site
        site.insert((1, 1), event(3))
        self.assertEqual(site.remove((1, 1)), [])
        self.assertEqual(site.least(), SECOND)
        self.assertEqual(site.overdue(), [])

    def test_a_greater_waiting_instance_does_not_matter(self):
        site = pair().site
        site.insert((1, 1), event(5, "go", 3))
        site.insert((1, 2), event(9))
        self.assertEqual(site.remove((9, 1)), [(5, 2), (5, 3)])

    def test_waiting_instances_of_the_same_event_count_by_their_marks(self):
        site = pair().site
        self.assertEqual(site.insert((9, 2), SECOND), [])
        self.assertEqual(site.remove((9, 1)), [(5, 2), (5, 3)])
        site = pair().site
        self.assertEqual(site.insert((8, 9), SECOND), [])
        self.assertEqual(site.remove((9, 1)), [])
        self.assertEqual(site.overdue(), [])
        self.assertEqual(site.remove((8, 9)), [(5, 2), (5, 3)])

    def test_the_order_is_that_of_the_instances(self):
        marks = filled(lazy(4), event(2, "twice"), event(4, "twice"), event(8, "twice"), event(9, "twice"))
        site = marks.site
        # The instances at 8 and 9 are taken back first, that at 4 later, and that at 2 last.
        site.insert((1, 1), event(6))
        self.assertEqual(site.remove((9, 3)), [])
        self.assertEqual(site.remove((9, 2)), [])
        site.insert((1, 2), event(3))
        self.assertEqual(site.remove((9, 1)), [])
        site.insert((1, 3), event(0))
        self.assertEqual(site.remove((9, 0)), [])
        self.assertEqual(site.remove((1, 1)), [])
        self.assertEqual(site.remove((1, 2)), [])
        self.assertEqual(site.remove((1, 3)), [(5, number) for number in range(8)])

    def test_the_order_within_an_instance_is_that_of_sending_not_of_the_marks(self):
        site = lazy()
        site.insert((9, 0), event(5, "twice"))
        site.process()
        site.note([(7, 3), (2, 8)])
        self.assertEqual(site.remove((9, 0)), [(7, 3), (2, 8)])

    def test_only_those_before_the_least_waiting_one_are_overdue(self):
        marks = filled(lazy(), event(2, "twice"), event(4, "twice"), event(6, "twice"))
        site = marks.site
        site.insert((1, 1), event(1))
        self.assertEqual(site.remove((9, 2)), [])
        self.assertEqual(site.remove((9, 0)), [])
        self.assertEqual(site.remove((1, 1)), [(5, 0), (5, 1)])
        self.assertEqual(site.remove((9, 1)), [(5, 2), (5, 3), (5, 4), (5, 5)])

    def test_an_overdue_event_is_not_sent_again_any_more(self):
        marks = pair()
        site = marks.site
        self.assertEqual(site.remove((9, 1)), [(5, 2), (5, 3)])
        site.insert((1, 1), SECOND)
        self.assertEqual(marks.process(), [E0, E1])
        self.assertEqual(site.remove((1, 1)), [(5, 4), (5, 5)])


if __name__ == "__main__":
    unittest.main()
