"""Crewclocks: what crews with clocks of their own can tell."""
