"""The refusals of Askhouse, one class for each."""


class HouseError(ValueError):
    pass


class BadHouse(HouseError):
    pass


class BadWord(HouseError):
    pass


class NoRoom(HouseError):
    pass


class OtherDoors(HouseError):
    pass


class TooGreat(HouseError):
    pass


class NoSuch(HouseError):
    pass


class SaidOtherwise(HouseError):
    pass


class NotAsked(HouseError):
    pass


class NotYet(HouseError):
    pass


class NotWrong(HouseError):
    pass


class BadText(HouseError):
    pass
