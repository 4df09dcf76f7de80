"""Same runs: an engine that changes programs and keeps every run."""
