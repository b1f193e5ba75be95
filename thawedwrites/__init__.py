"""Which writes through a copy of some depth can reach a reader."""
