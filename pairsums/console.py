"""Consoles: desks by lines."""

from pairsums.desks import Desk
from pairsums.errors import (InvalidLine, InvalidLost, InvalidNumber, InvalidValues, NotBack, NothingToUndo, NotLost,
                             NotReady)
from pairsums.lines import deed_of, text_of


class Console:
    """A desk that is told lines, and answers with lines."""

    def __init__(self, table, values):
        self._desk = Desk(table, values)

    def __eq__(self, other):
        return self is other

    def say(self, line):
        """The answer to a line."""
        if not isinstance(line, str):
            raise InvalidLine(line)
        deed = deed_of(self._desk.table, line.split(" "))
        if deed is None:
            raise InvalidLine(line)
        try:
            return self._answer(deed)
        except InvalidNumber:
            return "InvalidNumber"
        except InvalidValues:
            return "InvalidValues"
        except InvalidLost:
            return "InvalidLost"
        except NotLost:
            return "NotLost"
        except NotBack:
            return "NotBack"
        except NotReady:
            return "NotReady"
        except NothingToUndo:
            return "NothingToUndo"

    def _answer(self, deed):
        """The answer to a deed, whose errors come out."""
        word, *told = deed
        if word == "put":
            return text_of(self._desk.put(told[0], told[1]))
        if word == "mend":
            return text_of(self._desk.mend())
        if word == "lost":
            return text_of(self._desk.lost)
        if word == "hope":
            return text_of(self._desk.hope())
        if word == "show":
            return self._shown(told[0])
        self._change(word, told)
        return "ok"

    def _change(self, word, told):
        if word == "lose":
            self._desk.lose((told[0],))
        elif word == "column":
            self._desk.lose_column(told[0])
        elif word == "give":
            self._desk.give(told[0], told[1])
        else:
            self._desk.undo()

    def _shown(self, cell):
        value = self._desk.cells[self._desk.table.cells.index(cell)]
        return "lost" if value is None else str(value)
