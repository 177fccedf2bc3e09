"""Trials, after which a page is as before."""


class Trial:
    """A block of edits on a page that are taken back at its end, unless they are kept.

    kept is None, or True if they are. From the beginning of the block on, attributes with the names
    of those of the page hold what they were then.
    """

    def __init__(self, page):
        self.page = page

    def __enter__(self):
        self.kept = None
        self.innermost = self.page.innermost
        self.moment = self.page.moment
        self.past = self.page.past
        self.future = self.page.future
        self.before = self.page.before
        self.journal = self.page.journal
        self.program = self.page.program
        self.length = self.page.length
        self.slices = self.page.slices
        self.outcome = self.page.outcome
        self.many = self.page.many
        self.passes = self.page.passes
        self.turns = self.page.turns
        self.page.innermost = self
        return self.page

    def __exit__(self, kind, value, trace):
        self.page.innermost = self.innermost
        if self.kept is None or kind is not None:
            self.page.moment = self.moment
            self.page.past = self.past
            self.page.future = self.future
            self.page.before = self.before
            self.page.journal = self.journal
            self.page.program = self.program
            self.page.length = self.length
            self.page.slices = self.slices
            self.page.outcome = self.outcome
            self.page.many = self.many
            self.page.passes = self.passes
            self.page.turns = self.turns
