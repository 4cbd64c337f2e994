"""Barbreaks: plans for a day on the air that hold whatever the lags are."""
