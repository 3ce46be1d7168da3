"""Promise 2, for any askings: what is handed in stays, and what is told is the asker's own."""

import copy


def lists_within(thing):
    """All lists of a thing, itself and those within lists and tuples."""
    if not isinstance(thing, (list, tuple)):
        return []
    own = [thing] if isinstance(thing, list) else []
    return own + [each for part in thing for each in lists_within(part)]


def spoil(thing):
    for each in lists_within(thing):
        each.reverse()
        each.append("mine")


class AskersOwn:
    """For a test case that tells its askings, as (ask, given), given a tuple of what is handed in.

    Its refusals are told as (refusal, ask, given). Both are made anew each time."""

    def refusals(self):
        return ()

    def test_what_is_handed_in_stays(self):
        for at, (ask, given) in enumerate(self.askings()):
            with self.subTest(at=at):
                ahead = copy.deepcopy(given)
                ask(*given)
                self.assertEqual(given, ahead)

    def test_what_is_handed_in_stays_behind_a_refusal(self):
        for at, (refusal, ask, given) in enumerate(self.refusals()):
            with self.subTest(at=at):
                ahead = copy.deepcopy(given)
                for again in range(2):
                    with self.assertRaises(refusal):
                        ask(*given)
                    self.assertEqual(given, ahead)

    def test_a_refusal_changes_no_later_answer(self):
        right = [ask(*given) for ask, given in self.askings()]
        for refusal, ask, given in self.refusals():
            with self.assertRaises(refusal):
                ask(*given)
        self.assertEqual([ask(*given) for ask, given in self.askings()], right)

    def test_every_told_list_is_a_new_one(self):
        for at, (ask, given) in enumerate(self.askings()):
            with self.subTest(at=at):
                lists = lists_within(given) + lists_within(ask(*given))
                lists += lists_within(ask(*given))
                self.assertEqual(len({id(each) for each in lists}), len(lists))

    def test_changing_a_told_list_changes_no_later_answer(self):
        for at, (ask, given) in enumerate(self.askings()):
            with self.subTest(at=at):
                ahead = copy.deepcopy(given)
                told = ask(*given)
                right = copy.deepcopy(told)
                spoil(told)
                self.assertEqual(given, ahead)
                self.assertEqual(ask(*given), right)

    def test_a_later_asking_changes_no_told_list(self):
        for at, (ask, given) in enumerate(self.askings()):
            with self.subTest(at=at):
                told = ask(*given)
                right = copy.deepcopy(told)
                for other_ask, other_given in self.askings():
                    other_ask(*other_given)
                ask(*given)
                self.assertEqual(told, right)

    def test_changing_what_was_handed_in_changes_no_told_list(self):
        for at, (ask, given) in enumerate(self.askings()):
            with self.subTest(at=at):
                ahead = copy.deepcopy(given)
                told = ask(*given)
                right = copy.deepcopy(told)
                spoil(given)
                self.assertEqual(told, right)
                self.assertEqual(ask(*ahead), right)
