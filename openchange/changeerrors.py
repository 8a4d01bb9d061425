"""The errors of tables in use, of leases, and of changes of schemas."""

from openchange.errors import ChangeError

# As in errors, values that a caller may have chosen freely stay out of the messages.


class BadRows(ChangeError):
    """The rows of a table, or what is kept beside them, are not as they can be."""

    def __init__(self, focus):
        super().__init__("the rows, or what is kept beside them, cannot be so")
        self.focus = focus


class NotNow(ChangeError):
    """An event cannot happen where it stands."""

    def __init__(self, event):
        super().__init__("an event cannot happen where it stands")
        self.event = event


class BadTerms(ChangeError):
    """A part of the terms of leases is not as described."""

    def __init__(self, part):
        super().__init__("a part of the terms is not as described")
        self.part = part


class BadText(ChangeError):
    """A text of a schema has a word that cannot stand where it stands, or lacks one."""

    def __init__(self, line, column):
        super().__init__("the text of a schema is not as described")
        self.line = line
        self.column = column


class BadChange(ChangeError):
    """An element cannot be changed as two schemas tell."""

    def __init__(self, element):
        super().__init__("an element cannot be changed so")
        self.element = element
