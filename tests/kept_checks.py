"""What holds for all kept objects (points 50, 54 and 55); the tests of a Season and of a Roster run it."""

from tests.brute import chances
from watchbeats.errors import FailedDeed, NothingLeft, WatchError
from watchbeats.kept import Kept, Trial, tried


class KeptChecks:
    """Tests for a Case that has `made()`, `shown(kept)`, DEEDS (rows that work in this order), and BAD."""

    def call(self, kept, row):
        return getattr(kept, row[0])(*row[1:])

    def whole(self, kept):
        """All that an object shows, and what can be undone and redone, as the states in both directions."""
        shown = [self.shown(kept)]
        with kept.trial():
            while kept.done:
                kept.undo()
                shown.insert(0, self.shown(kept))
        behind = []
        with kept.trial():
            while True:
                try:
                    kept.redo()
                except NothingLeft:
                    break
                behind.append(self.shown(kept))
        return shown, behind

    def begun(self, done, undone):
        """An object with so many deeds that stand and so many that were undone."""
        kept = self.made()
        for row in self.DEEDS[:done + undone]:
            self.call(kept, row)
        for _ in range(undone):
            kept.undo()
        return kept

    def test_it_is_kept(self):
        self.assertIsInstance(self.made(), Kept)

    def test_nothing_left_at_first(self):
        kept = self.made()
        self.assertEqual(kept.done, 0)
        self.raises(NothingLeft, {}, kept.undo)
        self.raises(NothingLeft, {}, kept.redo)
        self.assertEqual(self.shown(kept), self.shown(self.made()))

    def test_undo_and_redo_behind_each_deed(self):
        kept = self.made()
        states = [self.shown(kept)]
        for done, row in enumerate(self.DEEDS):
            self.call(kept, row)
            states.append(self.shown(kept))
            self.assertEqual(kept.done, done + 1)
            self.raises(NothingLeft, {}, kept.redo)
            self.assertIs(kept.undo(), None)
            self.assertEqual((kept.done, self.shown(kept)), (done, states[done]))
            self.assertIs(kept.redo(), None)
            self.assertEqual((kept.done, self.shown(kept)), (done + 1, states[done + 1]))
        for done in range(len(self.DEEDS) - 1, -1, -1):
            kept.undo()
            self.assertEqual((kept.done, self.shown(kept)), (done, states[done]))
        self.raises(NothingLeft, {}, kept.undo)
        for done in range(1, len(self.DEEDS) + 1):
            kept.redo()
            self.assertEqual((kept.done, self.shown(kept)), (done, states[done]))
        self.raises(NothingLeft, {}, kept.redo)

    def test_a_new_deed_forgets_what_was_undone(self):
        for undone in range(1, len(self.DEEDS) + 1):
            kept = self.begun(len(self.DEEDS) - undone, undone)
            before = kept.done
            self.call(kept, self.DEEDS[before])
            self.assertEqual(kept.done, before + 1)
            self.raises(NothingLeft, {}, kept.redo)
            self.assertEqual(self.shown(kept), self.shown(self.begun(before + 1, 0)))

    def test_a_deed_that_fails_is_none(self):
        failed = 0
        for row, kind in self.BAD:
            if kind is not None:
                for done in (0, 3, len(self.DEEDS)):
                    kept = self.begun(done, min(2, len(self.DEEDS) - done))
                    before = self.whole(kept)
                    try:
                        self.call(kept, row)
                    except WatchError:
                        self.assertEqual(self.whole(kept), before)
                        failed += 1
        self.assertGreater(failed, len(self.BAD) // 4)

    def test_any_deeds_in_any_order(self):
        chance = chances(1)
        for _ in range(40):
            kept = self.made()
            stood, undone = [], []
            for _ in range(25):
                word = chance.choice(["undo", "redo", "deed", "deed"])
                if word == "undo" and stood:
                    kept.undo()
                    undone.append(stood.pop())
                elif word == "redo" and undone:
                    kept.redo()
                    stood.append(undone.pop())
                elif word == "deed":
                    row = chance.choice(self.DEEDS)
                    try:
                        self.call(kept, row)
                    except WatchError:
                        continue
                    stood.append(row)
                    undone = []
                self.assertEqual(kept.done, len(stood))
            other = self.made()
            for row in stood:
                self.call(other, row)
            self.assertEqual(self.shown(kept), self.shown(other))
            for row in reversed(undone):
                kept.redo()
                self.call(other, row)
                self.assertEqual(self.shown(kept), self.shown(other))

    def test_run_does_what_the_calls_do(self):
        one, two = self.made(), self.made()
        rows = list(self.DEEDS)
        self.assertEqual(one.run(rows), [self.call(two, row) for row in self.DEEDS])
        self.assertEqual(rows, list(self.DEEDS))
        self.assertEqual(self.whole(one), self.whole(two))
        self.assertEqual(one.done, len(self.DEEDS))
        self.assertEqual(one.run([]), [])
        self.assertEqual(one.done, len(self.DEEDS))

    def test_run_takes_back_and_does_again(self):
        kept = self.begun(3, 1)
        self.assertEqual(kept.run([("redo",), ("undo",), ("undo",), ("undo",), ("redo",)]), [None] * 5)
        self.assertEqual(self.whole(kept), self.whole(self.begun(2, 2)))
        results = kept.run([("undo",), self.DEEDS[1], ("undo",), ("redo",)])
        self.assertEqual(results[0::2] + results[3:], [None] * 3)
        self.assertEqual(self.whole(kept), self.whole(self.begun(2, 0)))

    def test_run_fails_at_each_place(self):
        for row, kind in self.BAD:
            for place in range(len(self.DEEDS) + 1):
                kept = self.begun(2, 1)
                before = self.whole(kept)
                rows = [("undo",), ("undo",)] + list(self.DEEDS)
                rows.insert(2 + place, row)
                if row == ("redo",) and place == 0:
                    continue
                try:
                    self.made().run(list(self.DEEDS[:place]) + [row])
                except FailedDeed as wrong:
                    cause = wrong.__cause__
                else:
                    continue
                error = self.raises(FailedDeed, {"index": 2 + place}, kept.run, rows)
                if kind is None:
                    self.assertIs(error.__cause__, None)
                else:
                    self.assertIs(error.__cause__.__class__, cause.__class__)
                    self.assertEqual(vars(error.__cause__), vars(cause))
                self.assertEqual(self.whole(kept), before)

    def test_each_bad_row_fails_at_its_place(self):
        for row, kind in self.BAD:
            kept = self.begun(2, 1)
            before = self.whole(kept)
            error = self.raises(FailedDeed, {"index": len(self.DEEDS) - 2}, kept.run,
                                list(self.DEEDS[2:]) + [row, ("undo",)])
            self.assertIs(error.__cause__.__class__, type(None) if kind is None else kind)
            self.assertEqual(self.whole(kept), before)

    def test_run_with_nothing_to_undo_or_redo(self):
        kept = self.made()
        for row in (("undo",), ("redo",)):
            error = self.raises(FailedDeed, {"index": 0}, kept.run, [row])
            self.assertIs(error.__cause__.__class__, NothingLeft)
        error = self.raises(FailedDeed, {"index": 3}, kept.run, [self.DEEDS[0], ("undo",), ("redo",), ("redo",)])
        self.assertIs(error.__cause__.__class__, NothingLeft)
        error = self.raises(FailedDeed, {"index": 2}, kept.run, [self.DEEDS[0], ("undo",), ("undo",)])
        self.assertEqual(self.whole(kept), self.whole(self.made()))

    def test_trial(self):
        for done, undone in ((0, 0), (3, 0), (0, 3), (2, 2)):
            kept = self.begun(done, undone)
            before = self.whole(kept)
            trial = kept.trial()
            self.assertIs(trial.__class__, Trial)
            with trial as held:
                self.assertIs(held, kept)
                self.assertEqual(self.whole(kept), before)
                while kept.done:
                    kept.undo()
                kept.run(list(self.DEEDS))
                self.assertEqual(kept.done, len(self.DEEDS))
            self.assertEqual(self.whole(kept), before)

    def test_a_trial_that_is_entered_later(self):
        kept = self.begun(1, 0)
        trial = kept.trial()
        self.call(kept, self.DEEDS[1])
        before = self.whole(kept)
        with trial:
            kept.undo()
            kept.undo()
        self.assertEqual(self.whole(kept), before)
        self.assertEqual(kept.done, 2)

    def test_a_trial_that_an_error_leaves(self):
        kept = self.begun(2, 1)
        before = self.whole(kept)
        for kind in (KeyError, NothingLeft, FailedDeed):
            with self.assertRaises(kind):
                with kept.trial():
                    kept.run([("redo",), ("undo",), ("undo",)])
                    if kind is KeyError:
                        raise KeyError()
                    if kind is NothingLeft:
                        kept.undo()
                        kept.undo()
                    kept.run([("undo",)] * 9)
            self.assertEqual(self.whole(kept), before)

    def test_trials_within_trials(self):
        kept = self.begun(3, 1)
        before = self.whole(kept)
        with kept.trial():
            kept.undo()
            middle = self.whole(kept)
            with kept.trial():
                kept.undo()
                with kept.trial():
                    self.call(kept, self.DEEDS[1])
                self.assertEqual(kept.done, 1)
                kept.run([self.DEEDS[1]])
                self.raises(NothingLeft, {}, kept.redo)
            self.assertEqual(self.whole(kept), middle)
        self.assertEqual(self.whole(kept), before)

    def test_tried(self):
        kept = self.begun(0, 2)
        before = self.whole(kept)
        self.assertEqual(tried(kept, list(self.DEEDS)), self.made().run(list(self.DEEDS)))
        self.assertEqual(self.whole(kept), before)
        for row, kind in self.BAD:
            error = self.raises(FailedDeed, {"index": len(self.DEEDS)}, tried, kept, list(self.DEEDS) + [row])
            self.assertIs(error.__cause__.__class__, type(None) if kind is None else kind)
            self.assertEqual(self.whole(kept), before)
