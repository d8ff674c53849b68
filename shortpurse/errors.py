"""The refusals of the program."""


class PurseError(ValueError):
    pass


class NoFraction(PurseError):
    pass


class NoPurse(PurseError):
    pass


class NoClaims(PurseError):
    pass


class NoRule(PurseError):
    def __init__(self, at):
        PurseError.__init__(self, f"the text of no rule goes on so behind {at} signs")
        self.at = at


class NoPlace(PurseError):
    pass


class NoDivision(PurseError):
    pass
