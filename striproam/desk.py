"""A desk: keeps machines by names, is told lines and answers each with a text."""

from striproam.answers import answer, made, makes
from striproam.errors import NoName, NothingDone
from striproam.lines import names_asked, words_of


class Desk:
    def __init__(self):
        self.kept = {}
        # Of each line to undo: a name and the machine that it had, or None.
        self.past = []

    def told(self, line):
        words = words_of(line)
        for name in names_asked(words):
            self.machine(name)
        if makes(words):
            return self.put(words[1], made(self.kept, words))
        if words[0] == "drop":
            return self.drop(words[1])
        if words[0] == "undo":
            return self.undo()
        return answer(self.kept, words)

    def machine(self, name):
        if name not in self.kept:
            raise NoName(name)
        return self.kept[name]

    def undoable(self):
        return len(self.past)

    def put(self, name, machine):
        self.past.append((name, self.kept.get(name)))
        self.kept[name] = machine
        return str(len(machine))

    def drop(self, name):
        self.past.append((name, self.kept.pop(name)))
        return str(len(self.kept))

    def undo(self):
        if not self.past:
            raise NothingDone("nothing is left to undo")
        last = self.past.pop()
        if last[1] is None:
            self.kept.pop(last[0])
        else:
            self.kept[last[0]] = last[1]
        return str(len(self.kept))
