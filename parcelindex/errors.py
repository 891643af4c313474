"""All errors of the program: three families, and the classes directly under them, with one field each."""


class ParcelError(ValueError):
    """Something that was passed, or a text that was read, is not as described."""


class BadVersion(ParcelError):
    def __init__(self, given):
        self.given = given


class BadRange(ParcelError):
    def __init__(self, given):
        self.given = given


class BadEnvironment(ParcelError):
    def __init__(self, given):
        self.given = given


class BadMarker(ParcelError):
    def __init__(self, given):
        self.given = given


class BadRequirement(ParcelError):
    def __init__(self, given):
        self.given = given


class BadName(ParcelError):
    def __init__(self, given):
        self.given = given


class BadPath(ParcelError):
    def __init__(self, given):
        self.given = given


class BadText(ParcelError):
    def __init__(self, given):
        self.given = given


class BadCount(ParcelError):
    def __init__(self, given):
        self.given = given


class BadEvent(ParcelError):
    def __init__(self, given):
        self.given = given


class BadWay(ParcelError):
    def __init__(self, given):
        self.given = given


class BadStep(ParcelError):
    def __init__(self, place):
        self.place = place


class BadParcel(ParcelError):
    def __init__(self, line):
        self.line = line


class BadLock(ParcelError):
    def __init__(self, line):
        self.line = line


class BadBase(ParcelError):
    def __init__(self, line):
        self.line = line


class ChoiceError(RuntimeError):
    """Something cannot be done as things stand."""


class NoChoice(ChoiceError):
    def __init__(self, clash):
        self.clash = clash


class TooWide(ChoiceError):
    def __init__(self, most):
        self.most = most


class PathClash(ChoiceError):
    def __init__(self, given):
        self.given = given


class Foreign(ChoiceError):
    def __init__(self, given):
        self.given = given


class NoRoom(ChoiceError):
    def __init__(self, wanted):
        self.wanted = wanted


class Damaged(ChoiceError):
    def __init__(self, found):
        self.found = found


class Pending(ChoiceError):
    def __init__(self, begun):
        self.begun = begun


class PowerCut(ChoiceError):
    def __init__(self, done):
        self.done = done


class WrongSum(ChoiceError):
    def __init__(self, given):
        self.given = given


class NotClosed(ChoiceError):
    def __init__(self, given):
        self.given = given


class NoRepair(ChoiceError):
    def __init__(self, given):
        self.given = given


class Taken(ChoiceError):
    def __init__(self, given):
        self.given = given


class AbsentError(LookupError):
    """Something that was asked for is not there."""


class NoName(AbsentError):
    def __init__(self, given):
        self.given = given


class NoRelease(AbsentError):
    def __init__(self, given):
        self.given = given


class NoParcel(AbsentError):
    def __init__(self, given):
        self.given = given


class NoRequest(AbsentError):
    def __init__(self, given):
        self.given = given


class NoPath(AbsentError):
    def __init__(self, given):
        self.given = given


class NoPast(AbsentError):
    def __init__(self, given):
        self.given = given


class NoMark(AbsentError):
    def __init__(self, given):
        self.given = given


class NoSection(AbsentError):
    def __init__(self, given):
        self.given = given
