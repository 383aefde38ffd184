"""What is asked of deeds, and of going on, before they are done."""

from telltrove.checks import is_int
from telltrove.errors import BadKey, BadValue, LastEpoch, NoVersion, Retired
from telltrove.forms import is_whole
from telltrove.letting import is_let

LAST_KEY = 23


def living_version(house, epoch, name):
    """The number of the version with this name; raises an error if it is not living."""
    version = house.number_of(name)
    if version >= house.present(epoch):
        raise NoVersion(name)
    if version not in house.living(epoch):
        raise Retired(name)
    return version


def ask_key(house, epoch, name, key):
    """The number of the living version with this name; raises the errors of a drop."""
    version = living_version(house, epoch, name)
    if not is_int(key, 0, LAST_KEY):
        raise BadKey(key)
    return version


def ask_deed(house, epoch, deed):
    """The number of the version that does a deed; raises the error with which the deed is refused."""
    version = ask_key(house, epoch, deed[1], deed[2])
    if deed[0] == "put":
        form = house.forms[version]
        if not is_whole(form, deed[3]) or not is_let(form, deed[3]):
            raise BadValue(deed[1])
    return version


def next_epoch(house, epoch):
    """The epoch behind another one; raises an error if the house has no further event."""
    if epoch + 1 == len(house.events):
        raise LastEpoch()
    return epoch + 1
