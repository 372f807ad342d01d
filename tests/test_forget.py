"""What a site saves, commits and throws away (point 135)."""

import unittest

from tests.samples import Marks, eager, event, filled, lazy, view


def ten(site):
    """Returns the caller of a site that has processed ten events at the times 0, 2, 4 .. 18."""
    return filled(site, *[event(2 * number, arg=number + 1) for number in range(10)])


class CommitTest(unittest.TestCase):
    def test_the_instances_with_a_lesser_time_are_committed(self):
        for interval in range(1, 9):
            for time in range(21):
                with self.subTest(interval=interval, time=time):
                    site = eager(interval)
                    ten(site)
                    committed = site.forget(time)
                    self.assertEqual(committed, site.processed()[:(time + 1) // 2])
                    self.assertEqual(len(committed), min(10, (time + 1) // 2))

    def test_waiting_instances_are_not_committed(self):
        site = eager()
        marks = filled(site, event(1))
        site.insert((1, 1), event(2))
        self.assertEqual(site.forget(5), [event(1)])
        marks.process()
        self.assertEqual(site.forget(5), [event(2)])
        self.assertEqual(site.forget(5), [])

    def test_several_events_at_the_time(self):
        site = eager()
        filled(site, event(3, count=0), event(3, count=1), event(4, count=2), event(4, count=3), event(5))
        self.assertEqual(site.forget(3), [])
        self.assertEqual(site.forget(4), [event(3, count=0), event(3, count=1)])
        self.assertEqual(site.forget(5), [event(4, count=2), event(4, count=3)])

    def test_no_event_is_committed_twice(self):
        for interval in range(1, 9):
            site = eager(interval)
            ten(site)
            self.assertEqual([len(site.forget(time)) for time in (0, 3, 3, 4, 1, 5, 0, 9, 9, 30, 30)],
                             [0, 2, 0, 0, 0, 1, 0, 2, 0, 5, 0])

    def test_equal_events_are_committed_one_by_one(self):
        site = eager()
        for mark in ((1, 0), (0, 1), (2, 2)):
            site.insert(mark, event(3, "twice"))
        marks = Marks(site)
        marks.process()
        marks.process()
        self.assertEqual(site.forget(9), [event(3, "twice")] * 2)
        marks.process()
        self.assertEqual(site.forget(9), [event(3, "twice")])

    def test_nothing_is_processed(self):
        for interval in (1, 3, 8):
            site = eager(interval)
            self.assertEqual(site.forget(1000), [])
            site.insert((1, 1), event(2))
            self.assertEqual(site.forget(1000), [])
            self.assertEqual(view(site), (event(2), (0,), 0, [], [event(2)], 0))

    def test_a_lazy_site_commits_likewise(self):
        site = lazy(2)
        ten(site)
        self.assertEqual(site.forget(7), site.processed()[:4])
        self.assertEqual(site.kept(), 6)
        self.assertEqual(site.forget(7), [])


class KeptTest(unittest.TestCase):
    def test_what_is_kept_begins_at_a_saved_state(self):
        for interval in range(1, 9):
            for time in range(21):
                with self.subTest(interval=interval, time=time):
                    site = eager(interval)
                    ten(site)
                    site.forget(time)
                    # The first instance with at least this time, or the last instance where there is none.
                    first = min(9, (time + 1) // 2)
                    self.assertEqual(site.kept(), 10 - first // interval * interval)
                    self.assertEqual(len(site.processed()), 10)

    def test_the_interval_three_in_numbers(self):
        site = eager(3)
        ten(site)
        found = []
        for time in (0, 4, 5, 6, 6, 10, 11, 17, 18, 19, 100):
            site.forget(time)
            found.append(site.kept())
        self.assertEqual(found, [10, 10, 7, 7, 7, 7, 4, 1, 1, 1, 1])

    def test_the_last_saved_state_of_all_if_all_are_before_the_time(self):
        for interval, kept in ((1, 1), (2, 2), (3, 1), (4, 2), (5, 5), (6, 4), (7, 3), (8, 2)):
            site = eager(interval)
            ten(site)
            site.forget(19)
            self.assertEqual(site.kept(), kept)

    def test_processed_contains_what_was_thrown_away(self):
        site = eager(2)
        marks = ten(site)
        events = site.processed()
        site.forget(13)
        self.assertEqual(site.kept(), 4)
        self.assertEqual(site.processed(), events)
        site.insert((1, 1), event(30))
        marks.process()
        self.assertEqual(site.processed(), events + [event(30)])
        self.assertEqual(site.kept(), 5)

    def test_a_lesser_time_throws_nothing_away(self):
        for interval in (1, 3):
            site = eager(interval)
            ten(site)
            site.forget(12)
            kept = site.kept()
            for time in (0, 5, 11):
                self.assertEqual(site.forget(time), [])
                self.assertEqual(site.kept(), kept)

    def test_kept_without_forget(self):
        site = eager(4)
        marks = ten(site)
        self.assertEqual(site.kept(), 10)
        site.remove((9, 6))
        self.assertEqual(site.kept(), 6)
        marks.process_all()
        self.assertEqual(site.kept(), 9)

    def test_indexes_are_counted_among_all_processed_instances(self):
        site = eager(4)
        marks = ten(site)
        site.forget(9)
        self.assertEqual(site.kept(), 6)
        for number in range(4):
            site.insert((1, number), event(20 + number))
            marks.process()
        # States are saved before the instances with the indexes 4, 8 and 12, whatever was thrown away.
        self.assertEqual(site.kept(), 10)
        site.forget(18)
        self.assertEqual(site.kept(), 6)
        site.forget(21)
        self.assertEqual(site.kept(), 6)
        site.forget(22)
        self.assertEqual(site.kept(), 2)

    def test_a_state_saved_before_what_was_taken_back_does_not_count(self):
        site = eager(2)
        marks = ten(site)
        site.remove((9, 4))
        site.forget(8)
        self.assertEqual(site.kept(), 2)
        marks.process()
        site.forget(11)
        self.assertEqual(site.kept(), 1)


class GoOnTest(unittest.TestCase):
    def test_taking_back_behind_the_promised_time(self):
        for interval in range(1, 9):
            for time in range(0, 19):
                with self.subTest(interval=interval, time=time):
                    site = eager(interval)
                    marks = ten(site)
                    site.forget(time)
                    whole = eager()
                    other = ten(whole)
                    self.assertEqual(site.insert((1, 1), event(time, "quiet", -1)),
                                     whole.insert((1, 1), event(time, "quiet", -1)))
                    self.assertEqual(view(site)[:5], view(whole)[:5])
                    self.assertEqual(marks.process_all(), other.process_all())
                    self.assertEqual(site.remove((9, (time + 1) // 2)), whole.remove((9, (time + 1) // 2)))
                    self.assertEqual(view(site)[:5], view(whole)[:5])
                    self.assertEqual(marks.process_all(), other.process_all())
                    self.assertEqual(view(site)[:5], view(whole)[:5])

    def test_an_insertion_at_the_promised_time_takes_back_to_the_committed_ones(self):
        site = eager(4)
        ten(site)
        committed = site.forget(12)
        self.assertEqual(site.kept(), 6)
        site.insert((1, 1), event(12, "back", -50, sender=-1, count=-1))
        self.assertEqual(site.processed(), committed)
        self.assertEqual((site.state(), site.kept()), ((21,), 2))

    def test_growing_times_and_new_instances(self):
        site = eager(3)
        marks = Marks(site)
        committed = []
        for number in range(30):
            site.insert((1, number), event(number, arg=1))
            marks.process()
            if number % 4 == 3:
                site.remove((1, number))
                committed += site.forget(number - 2)
                self.assertEqual(committed, [each for each in site.processed() if each[0] < number - 2])
                self.assertLessEqual(site.kept(), 6)
        self.assertEqual(site.state(), (23,))
        committed += site.forget(30)
        self.assertEqual(committed, site.processed())


if __name__ == "__main__":
    unittest.main()
