"""Flywright: the machines of a stage, cues, and what keeps them apart."""
