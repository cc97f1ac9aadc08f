"""Light on a table of mirrors, told exactly."""
