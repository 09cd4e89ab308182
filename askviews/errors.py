"""The refusals: one class each, so that an asker can take any one of them by itself, or all by the base."""


class AskError(ValueError):
    pass


class NoText(AskError):
    def __init__(self, at):
        AskError.__init__(self, f"no question's text, as word {at} shows")
        self.at = at


class Loose(AskError):
    def __init__(self, unknown):
        AskError.__init__(self, f"the head's {unknown} stands in no atom")
        self.unknown = unknown


class NoView(AskError):
    def __init__(self, place):
        AskError.__init__(self, f"no such view for place {place}")
        self.place = place


class TooMany(AskError):
    pass


class Twice(AskError):
    pass


class NoHeld(AskError):
    pass


class NoAsk(AskError):
    pass


class NoRow(AskError):
    pass
