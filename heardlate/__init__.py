"""Heardlate: plans that hold although others decide durations and news of them comes late."""
