"""A second, plainer tree: a dict from the kept names on the way to what is there, gone through for each question."""

from namesone import errors


class Model:
    """Answers as a tree does, with errors as tuples of their names and fields."""

    def __init__(self, table):
        self.tables = {(): table}
        self.worths = {}
        self.kinds = {(): "folder"}

    def twin(self):
        other = Model(self.tables[()])
        other.tables, other.worths, other.kinds = dict(self.tables), dict(self.worths), dict(self.kinds)
        return other

    # Where paths lead.

    def child(self, at, name):
        key = self.tables[at](name)
        alike = [to for to in self.kinds if to and to[:-1] == at and self.tables[at](to[-1]) == key]
        assert len(alike) <= 1, alike
        return alike[0] if alike else None

    def found(self, path, busy=()):
        at = ()
        for step, name in enumerate(path.split("/")):
            folder = self.end_of(at, busy) if step else ()
            if folder is None or self.kinds[folder] != "folder":
                return None
            at = self.child(folder, name)
            if at is None:
                return None
        return at

    def end_of(self, at, busy=()):
        if at is None or self.kinds[at] != "link":
            return at
        if at in busy:
            return None
        return self.end_of(self.found(self.worths[at], (*busy, at)), (*busy, at))

    def end_at(self, path):
        return () if path is None else self.end_of(self.found(path))

    def holder(self, path):
        return self.folder_at("/".join(path.split("/")[:-1]) or None)

    def folder_at(self, path):
        at = self.end_at(path)
        return at if at is not None and self.kinds[at] == "folder" else None

    # What changes it. Each method raises the errors of the program.

    def add(self, path, kind, worth=None, table=None):
        holder = self.holder(path)
        if holder is None:
            raise errors.Missing(path)
        if self.found(path) is not None:
            raise errors.Present(path)
        at = (*holder, path.split("/")[-1])
        self.kinds[at] = kind
        if kind == "folder":
            # Not `or`: a table without folds and marks has no length.
            self.tables[at] = self.tables[holder] if table is None else table
        else:
            self.worths[at] = worth

    def folder(self, path, table=None):
        self.add(path, "folder", table=table)

    def file(self, path, content=0):
        self.add(path, "file", content)

    def link(self, path, target):
        self.add(path, "link", target)

    def need(self, path):
        at = self.found(path)
        if at is None:
            raise errors.Missing(path)
        return at

    def file_at(self, path):
        at = self.end_of(self.need(path))
        if at is None or self.kinds[at] != "file":
            raise errors.NoFile(path)
        return at

    def write(self, path, content):
        self.worths[self.file_at(path)] = content

    def read(self, path):
        return self.worths[self.file_at(path)]

    def remove(self, path):
        at = self.need(path)
        for facts in (self.tables, self.worths, self.kinds):
            for to in [to for to in facts if to[:len(at)] == at]:
                del facts[to]

    def move(self, path, other):
        at = self.need(path)
        holder = self.holder(other)
        if holder is None:
            raise errors.Missing(other)
        if self.found(other) not in (None, at):
            raise errors.Present(other)
        if holder[:len(at)] == at:
            raise errors.Inside(other)
        to = (*holder, other.split("/")[-1])
        for facts in (self.tables, self.worths, self.kinds):
            kept = {to + old[len(at):] if old[:len(at)] == at else old: fact for old, fact in facts.items()}
            facts.clear()
            facts.update(kept)

    def change(self, path, table):
        at = self.folder_at(path)
        if at is None:
            raise errors.Missing(path)
        names = sorted([to[-1] for to in self.kinds if to and to[:-1] == at], key=lambda name: (len(name), name))
        for first, one in enumerate(names):
            for other in names[first + 1:]:
                if table(one) == table(other):
                    raise errors.Barred(one, other)
        self.tables[at] = table

    # What is asked of it.

    def kind(self, path):
        return self.kinds[self.need(path)]

    def real_path(self, path):
        return "/".join(self.need(path))

    def target(self, path):
        at = self.need(path)
        if self.kinds[at] != "link":
            raise errors.NoLink(path)
        return self.worths[at]

    def end(self, path):
        at = self.end_at(path)
        return None if at is None else "/".join(at)

    def table_of(self, path=None):
        at = self.folder_at(path)
        if at is None:
            raise errors.Missing(path)
        return self.tables[at]

    def names(self, path=None):
        table = self.table_of(path)
        at = self.folder_at(path)
        return sorted([to[-1] for to in self.kinds if to and to[:-1] == at], key=table)

    def rows(self):
        return [("/".join(at), self.kinds[at], self.worths.get(at)) for at in sorted(self.kinds) if at]

    def folder_tables(self):
        return {"/".join(at): table for at, table in self.tables.items()}

    def do(self, deed):
        getattr(self, deed[0])(*deed[1:])

    def batch(self, deeds):
        changed = self.twin()
        for at, deed in enumerate(deeds):
            try:
                changed.do(deed)
            except (errors.Missing, errors.Present, errors.NoFile, errors.Inside):
                raise errors.NoDeed(at) from None
        self.take(changed)

    def take(self, other):
        self.tables, self.worths, self.kinds = other.tables, other.worths, other.kinds

    def lay(self, archive):
        changed = self.twin()
        paths = []
        for index, (path, content) in enumerate(archive):
            at = ()
            names = path.split("/")
            for step, name in enumerate(names):
                kind = "file" if step == len(names) - 1 and content is not None else "folder"
                to = changed.child(at, name)
                if to is None:
                    to = (*at, name)
                    changed.kinds[to] = kind
                    if kind == "folder":
                        changed.tables[to] = changed.tables[at]
                if changed.kinds[to] != kind:
                    raise errors.Clash(index)
                if kind == "file":
                    changed.worths[to] = content
                at = to
            paths.append("/".join(at))
        self.take(changed)
        return paths
