"""Trials, after which a page is as before."""


class Trial:
    """A block of edits on a page that are taken back at its end, unless they are kept.

    kept is None, or True if they are. What the page was like is held in attributes of the same
    names as those of the page.
    """

    def __init__(self, page):
        self.page = page
        self.kept = None

    def hold(self):
        """Holds what the page is like."""
        self.moment = self.page.moment
        self.past = self.page.past
        self.future = self.page.future
        self.before = self.page.before
        self.journal = self.page.journal
        self.innermost = self.page.innermost
        self.program = self.page.program
        self.length = self.page.length
        self.slices = self.page.slices
        self.outcome = self.page.outcome
        self.many = self.page.many
        self.passes = self.page.passes
        self.turns = self.page.turns

    def __enter__(self):
        self.kept = None
        self.hold()
        self.page.innermost = self
        return self.page

    def __exit__(self, kind, value, trace):
        self.page.innermost = self.innermost
        if self.kept is None or kind is not None:
            self.take_back()

    def take_back(self):
        """Makes the page what it was like."""
        self.page.moment = self.moment
        self.page.past = self.past
        self.page.future = self.future
        self.page.before = self.before
        self.page.journal = self.journal
        self.page.program = self.program
        self.page.length = self.length
        self.page.slices = self.slices
        self.page.outcome = self.outcome
        self.page.many = self.many
        self.page.passes = self.passes
        self.page.turns = self.turns
