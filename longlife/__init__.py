"""Longlife: worlds of cells over long times."""
