"""Windows: how much is flown in a stretch of minutes."""


# For each point: the minutes from each moment before it up to it, together.
# Both lists must rise, so that one walk through each is enough.
def minutes_since(moments, points):
    sums = []
    passed = 0
    total = 0
    for point in points:
        while passed < len(moments) and moments[passed] < point:
            total += moments[passed]
            passed += 1
        sums.append(passed * point - total)
    return sums


def differences(greater, lesser):
    return [more - less for more, less in zip(greater, lesser)]


# For each of the rising points: the minutes that are flown ahead of it.
def flown_before(legs, points):
    since_departures = minutes_since(sorted([leg.dep for leg in legs]), points)
    since_arrivals = minutes_since(sorted([leg.arr for leg in legs]), points)
    return differences(since_departures, since_arrivals)


def flown_from(legs, t, w):
    flown = flown_before(legs, [t, t + w])
    return flown[1] - flown[0]


def most_flown(legs, w):
    # A window that slides on can only turn from gaining to losing where it begins
    # with a departure or ends with an arrival, so no other beginnings need a look.
    begins = sorted([leg.dep for leg in legs] + [max(0, leg.arr - w) for leg in legs])
    ends = [begin + w for begin in begins]
    return max(differences(flown_before(legs, ends), flown_before(legs, begins)), default=0)
