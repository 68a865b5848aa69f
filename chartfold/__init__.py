"""Chartfold: charts of rooms within rooms, folded into flat machines."""
