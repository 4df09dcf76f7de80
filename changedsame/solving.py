"""Unknowns that are found to be one, or to stand for a type."""

from changedsame.looses import are_headed_alike, inner_types, leaves_of, with_inner


class Solver:
    """Classes of unknowns that are one and the same: each leads to its root; a root may have a type.

    Two classes are joined ahead of their types, so that types that share parts are gone through once.
    """

    def __init__(self):
        self.above = {}
        self.terms = {}
        self.made = 0

    def fresh(self):
        """A further unknown; not beside unknowns that were made elsewhere."""
        self.made += 1
        return ("unknown", self.made - 1)

    def root(self, number):
        """The number to which an unknown leads; ways there are made shorter."""
        while number in self.above:
            above = self.above[number]
            if above in self.above:
                self.above[number] = self.above[above]
            number = above
        return number

    def has_made_one(self, one, other):
        """Makes two loose types one and the same, as far as it can; whether it could."""
        work = [(one, other)]
        while work:
            first, last = work.pop()
            if first[0] == "unknown" and last[0] == "unknown":
                if not self.has_joined(self.root(first[1]), self.root(last[1]), work):
                    return False
            elif first[0] == "unknown":
                if not self.has_told(self.root(first[1]), last, work):
                    return False
            elif last[0] == "unknown":
                if not self.has_told(self.root(last[1]), first, work):
                    return False
            elif are_headed_alike(first, last):
                work.extend(list(zip(inner_types(first), inner_types(last))))
            else:
                return False
        return True

    def has_joined(self, root, other, work):
        """Joins two roots; puts the pair of their types, if both have one, to what is to be made one."""
        if root == other:
            return True
        self.above[root] = other
        if root in self.terms:
            term = self.terms.pop(root)
            if other in self.terms:
                work.append((term, self.terms[other]))
            else:
                self.terms[other] = term
        return not self.is_ring(other)

    def has_told(self, root, loose, work):
        """Gives a root a type that is no unknown, or puts it beside the one that the root has."""
        if root in self.terms:
            work.append((self.terms[root], loose))
            return True
        self.terms[root] = loose
        return not self.is_ring(root)

    def is_ring(self, root):
        """Whether a root stands within its own type."""
        seen = {}
        work = [root]
        while work:
            inside = self.unknowns_below(work.pop())
            for number in inside:
                inner = self.root(number)
                if inner == root:
                    return True
                if inner not in seen:
                    seen[inner] = True
                    work.append(inner)
        return False

    def unknowns_below(self, root):
        """The list of the unknowns in a root's type."""
        return leaves_of(self.terms[root], "unknown") if root in self.terms else []

    def known(self, loose):
        """The type with all that is known of its unknowns put in their places."""
        done = {}
        out = []
        work = [("read", loose)]
        while work:
            step, node = work.pop()
            if step == "keep":
                done[node] = out[-1]
            elif step == "close":
                many = len(out) - len(inner_types(node))
                parts = out[many:]
                del out[many:]
                out.append(with_inner(node, parts))
            elif node[0] == "unknown":
                self.tell_unknown(self.root(node[1]), done, out, work)
            elif inner_types(node):
                work.append(("close", node))
                work.extend([("read", part) for part in inner_types(node)[::-1]])
            else:
                out.append(node)
        return out[0]

    def tell_unknown(self, root, done, out, work):
        """One step of known, for a root: what is done already, what stands for it, or the root itself."""
        if root in done:
            out.append(done[root])
        elif root in self.terms:
            work.append(("keep", root))
            work.append(("read", self.terms[root]))
        else:
            out.append(("unknown", root))
