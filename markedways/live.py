"""Nets that change by deeds, which can be taken back, and journals of such deeds."""

from markedways.errors import BadDeed, BadJournal, BadNet, NothingLeft, WayError
from markedways.failures import need_net
from markedways.nets import Net, is_pair
from markedways.packets import is_count, is_list

UNDO = ("undo",)


def is_done(tables, links, deed):
    """Whether any value has the form of a deed for these tables and links; if so, it is done to them.

    What comes in by the deed is not judged here.
    """
    if not isinstance(deed, tuple) or len(deed) == 0:
        return False
    if deed[0] == "rule" and len(deed) == 4 and is_spot(tables, deed[1], deed[2], 0):
        tables[deed[1]].insert(deed[2], deed[3])
        return True
    if deed[0] == "strike" and len(deed) == 3 and is_spot(tables, deed[1], deed[2], 1):
        del tables[deed[1]][deed[2]]
        return True
    if deed[0] == "link" and len(deed) == 2:
        links.append(deed[1])
        return True
    if deed[0] == "cut" and len(deed) == 2 and is_pair(deed[1]) and deed[1] in links:
        links.remove(deed[1])
        return True
    return False


def is_spot(tables, switch, index, behind):
    """Whether any two values are a switch and an index in its table with at least so many rules from there on."""
    if not is_count(switch) or switch not in tables:
        return False
    return is_count(index) and index + behind <= len(tables[switch])


def net_after(net, deed):
    """The net after the deed; BadDeed for any value that is none or would not lead to a Net."""
    tables = {switch: list(net[switch]) for switch in net.switches}
    links = list(net.links)
    if not is_done(tables, links, deed):
        raise BadDeed(deed)
    try:
        return Net(net.fields, net.switch_field, tables, links)
    except WayError:
        raise BadDeed(deed) from None


class State:
    """What a live net was when a block began, and the State of the block around that block."""

    def __init__(self, now, deeds, earlier, outer):
        self.now = now
        self.deeds = deeds
        self.earlier = earlier
        self.outer = outer


class LiveNet:
    """A net that changes by deeds, the last of which can be taken back."""

    def __init__(self, net):
        need_net(net)
        self._now = net
        self._deeds = ()
        # The nets ahead of the deeds that stand, one for each.
        self._earlier = ()
        self._block = None

    @property
    def net(self):
        """The net as it is now."""
        return self._now

    @property
    def log(self):
        """The list of the deeds that stand."""
        return list(self._deeds)

    def do(self, deed):
        """Does the deed."""
        after = net_after(self._now, deed)
        self._deeds = self._deeds + (deed,)
        self._earlier = self._earlier + (self._now,)
        self._now = after

    def undo(self):
        """Takes the last deed back that stands."""
        if len(self._deeds) == 0:
            raise NothingLeft("no deed stands")
        self._now = self._earlier[-1]
        self._deeds = self._deeds[:-1]
        self._earlier = self._earlier[:-1]

    def copy(self):
        """An independent live net in the same state, in no block."""
        other = LiveNet(self._now)
        other._deeds = self._deeds
        other._earlier = self._earlier
        return other

    def __eq__(self, other):
        return isinstance(other, LiveNet) and self._now == other._now and self._deeds == other._deeds

    def __enter__(self):
        self._block = State(self._now, self._deeds, self._earlier, self._block)
        return self

    def __exit__(self, kind, value, trace):
        if kind is not None:
            self._now = self._block.now
            self._deeds = self._block.deeds
            self._earlier = self._block.earlier
        self._block = self._block.outer

    def tried(self, work):
        """What work returns for this live net, called in a block."""
        with self as same:
            return work(same)


def followed(net, journal):
    """The live net behind the journal, and the index of the first wrong item, None if there is none."""
    live = LiveNet(net)
    if not is_list(journal):
        return live, 0
    for at, item in enumerate(journal):
        try:
            if item == UNDO:
                live.undo()
            else:
                live.do(item)
        except (BadDeed, NothingLeft):
            return live, at
    return live, None


def first_wrong(net, journal):
    """The index of the first item of the journal that is none or is refused, None if there is none."""
    return followed(net, journal)[1]


def replayed(net, journal):
    """The live net behind the journal."""
    live, at = followed(net, journal)
    if at is not None:
        raise BadJournal(at)
    return live
