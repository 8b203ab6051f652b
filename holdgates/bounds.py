"""The five bounds: of runs, looks back, leaves and sets, stands, inputs."""

LONGEST = 600
DEEPEST = 40
MOST = 200
STANDS = 2000
INPUTS = 12
