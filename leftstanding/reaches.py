"""All standings that come, the roads to them, and the first one in which something is wrong."""

from leftstanding.bounds import MAX_STANDINGS
from leftstanding.errors import TooMany
from leftstanding.moving import behind, open_deeds
from leftstanding.standings import begin
from leftstanding.views import kinds_now, may, must

ENDS = ("done", "off")


def reach(agreement, most):
    """Return the tuple of all standings that come with at most so many falls, by their numbers."""
    return tuple(origins_of(agreement, most))


def road(agreement, most, standing):
    """Return the deeds by which the standing got its number; None if it does not come."""
    return road_in(origins_of(agreement, most), standing)


def clash(agreement):
    """Return the road to the first standing, without falls, with "done" where it is not let; None if none has it."""
    origins = origins_of(agreement, 0)
    for standing in origins:
        if must(agreement, standing) and not may(agreement, standing):
            return road_in(origins, standing)
    return None


def stuck(agreement):
    """Return the road to the first standing, without falls, in which some house waits for ever; None if none does."""
    origins = origins_of(agreement, 0)
    for standing in origins:
        if not _has_ended(agreement, standing) and not deeds_within(agreement, standing, 0):
            return road_in(origins, standing)
    return None


def origins_of(agreement, most):
    """Return a dict of all standings that come, by their numbers: each tells the one ahead and the deed that led on."""
    origins = {begin(agreement): None}
    wave = list(origins)
    while wave:
        later = []
        for standing in wave:
            for deed in deeds_within(agreement, standing, most):
                reached = behind(agreement, standing, deed)
                if reached not in origins:
                    origins[reached] = (standing, deed)
                    later.append(reached)
            if len(origins) > MAX_STANDINGS:
                raise TooMany(MAX_STANDINGS)
        wave = later
    return origins


def road_in(origins, standing):
    """Return the deeds that led to the standing, one of origins; None if it is none."""
    if standing not in origins:
        return None
    deeds = []
    while origins[standing] is not None:
        standing, deed = origins[standing]
        deeds.append(deed)
    return tuple(deeds[::-1])


def deeds_within(agreement, standing, most):
    """Return the ascending list of deeds that can be done, those to fall only while fewer than most have fallen."""
    _, _, _, fallen = standing
    return [deed for deed in open_deeds(agreement, standing) if deed[0] != "fall" or len(fallen) < most]


def _has_ended(agreement, standing):
    """Tell whether each house has ended."""
    return all([now in ENDS for now in kinds_now(agreement, standing)])
