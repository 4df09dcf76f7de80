"""Whether two programs run alike, as far as some runs of both tell."""

from changedsame.plainruns import run_outer

INPUTS = [0, 1, -1, 3, 2147483647]


def parting_run(program, other, rand, tries=3, ticks=300, more=1500):
    """A tuple of inputs and both outer outcomes that are not those of programs that run alike, None if none is found."""
    for _ in range(tries):
        inputs = [rand.choice(INPUTS) for _ in range(rand.choice([0, 2, 20]))]
        near, far = run_outer(program, inputs, ticks), run_outer(other, inputs, more)
        if far[1] == ("spent",):
            many = min(len(near[0]), len(far[0]))
            is_bad = near[1] != ("spent",) or near[0][:many] != far[0][:many]
        elif near[1] == ("spent",):
            is_bad = far[0][:len(near[0])] != near[0]
        else:
            is_bad = near != far
        if is_bad:
            return (inputs, near, far)
    return None
