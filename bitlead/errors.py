"""What the program refuses with, each refusal by a class of its own."""


class LeadError(ValueError):
    pass


class Uneven(LeadError):
    pass


class Unhalved(LeadError):
    pass


class Lost(LeadError):
    def __init__(self, place):
        LeadError.__init__(self, f"what is lost at {place} can't be brought back")
        self.place = place


class BadRow(LeadError):
    def __init__(self, row):
        LeadError.__init__(self, f"row {row} can't stand so")
        self.row = row
