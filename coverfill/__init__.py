"""Coverfill: shapes on a floor of cells, told exactly."""
