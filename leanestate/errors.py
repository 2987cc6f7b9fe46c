"""The refusals: one class for each, all of them under LeanError alone."""


class LeanError(ValueError):
    pass


class NoRatio(LeanError):
    pass


class NoText(LeanError):
    pass


class TooMany(LeanError):
    pass


class NoClaim(LeanError):
    pass


class NoEstate(LeanError):
    pass


class NoRule(LeanError):
    pass


class NoOrder(LeanError):
    pass


class NoSharing(LeanError):
    pass


class NoClaimer(LeanError):
    pass


class NoAmount(LeanError):
    pass


class NoGroup(LeanError):
    pass


class NoLine(LeanError):
    pass


class NoName(LeanError):
    pass


class Known(LeanError):
    pass
